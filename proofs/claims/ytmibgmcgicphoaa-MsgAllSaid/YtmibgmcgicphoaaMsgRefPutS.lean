/-
  CONTRACT OF msg's reference: PutReply, at replies that may be. (Written by program: wip/tools/gen_msg_refputr2.py.)
-/
import Derived.Test.YtmibgmcgicphoaaMsgRefPutR
namespace Go.Proofs.Ytmibgmcgicphoaa.msg
open Go.RowKit Go.Proofs.Ytmibgmcgicphoaa.octets Go.Proofs.Ytmibgmcgicphoaa.pack
set_option linter.unusedVariables false
set_option linter.unusedSimpArgs false

theorem lit_two (W : World) (a b : Int) (ha : 0 ≤ a ∧ a ≤ 255) (hb : 0 ≤ b ∧ b ≤ 255) : Held (W.alloc (.cells #[.int .u8 a, .int .u8 b] 5)) W.heap.size 2 [u1 a, u1 b] := Held.lit W [u1 a, u1 b] _ (by simp [vals, u1_val ha, u1_val hb]) (by simp [maxLen])
set_option maxRecDepth 100000 in
set_option maxHeartbeats 4000000 in
theorem refPutR_131 (r : R) (w : World) (h8 : r.nonce.length = 8) (h : okR r = true) (hkd : r.kind = 131) : Calls Try.prog 16 #[.agg (rv r).toArray] w fun e w' => ∃ v, e = .returned (.tuple #[v, .int .i64 0]) ∧ Own w' w.heap.size v (replyB r) ∧ Below w.heap.size w w' := by
  have hA := Arr.new w (rv r) 28
  have hw := below_new w (.cells (rv r).toArray 28)
  have hS0 : Ry w w.heap.size r (w.alloc (.cells (rv r).toArray 28)) := ⟨hA, hw⟩
  obtain ⟨c0, c1, c2, c3, c4, c5⟩ := rv_cells hA
  have hnm := fun W => replies_ok r h8 W
  have hq := fun W => neq_reply (namedR r) r (namedR_eight r h8) h8 W
  have hrl := rv_len r h8
  obtain ⟨dd, d1, d2, d3⟩ := rowB_spec (P := Try.prog) (ty := 28) (n := 14) (by kernel_rfl)
  replace d1 := Lib.hid d1
  replace d3 := Lib.hid d3
  replace hrl := Lib.hid hrl
  obtain ⟨bk, hbk⟩ : ∃ b, inI r.kind 129 136 = b := ⟨_, rfl⟩
  obtain ⟨bs, hbs⟩ : ∃ b, inI r.seq 0 4294967295 = b := ⟨_, rfl⟩
  obtain ⟨br, hbr⟩ : ∃ b, inI r.role 0 3 = b := ⟨_, rfl⟩
  obtain ⟨bw, hbw⟩ : ∃ b, inI r.who 0 4 = b := ⟨_, rfl⟩
  obtain ⟨be, hbe⟩ : ∃ b, inI r.epoch 0 65535 = b := ⟨_, rfl⟩
  obtain ⟨bc, hbc⟩ : ∃ b, inI r.code 0 255 = b := ⟨_, rfl⟩
  obtain ⟨hnd, hkk, hse, hro, hwh, hep, hco⟩ := okR_parts h
  have hall : bk = true ∧ bs = true ∧ br = true ∧ bw = true ∧ be = true ∧ bc = true := by
    unfold okR fitsR at h
    rw [hbk, hbs, hbr, hbw, hbe, hbc] at h
    simp only [Bool.and_eq_true] at h
    exact ⟨h.1.1.1.1.1.1, h.1.1.1.1.1.2, h.1.1.1.1.2, h.1.1.1.2, h.1.1.2, h.1.2⟩
  rw [decide_eq_true hnd] at hq
  obtain ⟨rfl, rfl, rfl, rfl, rfl, rfl⟩ := hall
  clear h hnd hkk
  replace hkd := Lib.hid hkd
  replace h8 := Lib.hid h8
  replace hbk := Lib.hid hbk
  replace hbs := Lib.hid hbs
  replace hbr := Lib.hid hbr
  replace hbw := Lib.hid hbw
  replace hbe := Lib.hid hbe
  replace hbc := Lib.hid hbc
  clear hA hw
  go_enter Try.func16, Try.ntmps16
  try dsimp only [List.append]
  go_wp2_with fail
  refine (in_ok _ _ _ true _ hbk.out).mono ?_
  rintro e w' ⟨rfl, rfl⟩
  go_wp2_with fail
  refine (in_ok _ _ _ true _ hbs.out).mono ?_
  rintro e w' ⟨rfl, rfl⟩
  go_wp2_with fail
  refine (in_ok _ _ _ true _ hbr.out).mono ?_
  rintro e w' ⟨rfl, rfl⟩
  go_wp2_with fail
  refine (in_ok _ _ _ true _ hbw.out).mono ?_
  rintro e w' ⟨rfl, rfl⟩
  go_wp2_with fail
  refine (in_ok _ _ _ true _ hbe.out).mono ?_
  rintro e w' ⟨rfl, rfl⟩
  go_wp2_with fail
  refine (in_ok _ _ _ true _ hbc.out).mono ?_
  rintro e w' ⟨rfl, rfl⟩
  clear c0 c1 c2 c3 c4 c5
  generalize w.alloc (.cells (rv r).toArray 28) = w1 at hS0 ⊢
  obtain ⟨g, hgl⟩ : ∃ g, g = w.heap.size := ⟨_, rfl⟩
  rw [← hgl] at hS0
  simp only [← hgl]
  replace hgl := Lib.hid hgl
  have hD : Ry w g r w1.drew := hS0.since (Below.drew (Below.refl _ _))
  go_wp2_with fail
  refine wp_region_held_drew (S := Ry w g r) (by kernel_rfl) hD (fun _ => ?_)
  refine wpAnyH_take (i := 0) (oi := Oper.mk (some 34) _ _ _ _ _) (v := ?_) rfl (by kernel_rfl) (by kernel_rfl) (by kernel_rfl) (fun _ _ _ h => h) (Or.inl ⟨by rfl, ?_⟩) hD ?_
  rotate_left
  · intro w hSw
    go_simp
    try with_reducible rfl
  simp only [Act.put, List.setIfInBounds_toArray, List.set_cons_zero, List.set_cons_succ]
  try dsimp only
  refine wpAnyH_take (i := 1) (oi := Oper.mk (some 35) _ _ _ _ _) (v := ?_) rfl (by kernel_rfl) (by kernel_rfl) (by kernel_rfl) (fun _ _ _ h => h) (Or.inl ⟨by rfl, ?_⟩) hD ?_
  rotate_left
  · intro w hSw
    go_simp
    try with_reducible rfl
  simp only [Act.put, List.setIfInBounds_toArray, List.set_cons_zero, List.set_cons_succ]
  try dsimp only
  refine wpAnyH_take (i := 2) (oi := Oper.mk (some 36) _ _ _ _ _) (v := ?_) rfl (by kernel_rfl) (by kernel_rfl) (by kernel_rfl) (fun _ _ _ h => h) (Or.inl ⟨by rfl, ?_⟩) hD ?_
  rotate_left
  · intro w hSw
    go_simp
    try with_reducible rfl
  simp only [Act.put, List.setIfInBounds_toArray, List.set_cons_zero, List.set_cons_succ]
  try dsimp only
  refine wpAnyH_take (i := 3) (oi := Oper.mk (some 37) _ _ _ _ _) (v := .agg (rv r).toArray) rfl (by kernel_rfl) (by kernel_rfl) (by kernel_rfl) (fun _ _ _ h => h) (yieldsIf_load_mid rfl _ _ rfl g 0 rfl (rv r) dd (fun w h => h.1.range) d1.out d2 (by rw [d3.out, hrl.out])) hD ?_
  simp only [Act.put, List.setIfInBounds_toArray, List.set_cons_zero, List.set_cons_succ]
  try dsimp only
  refine wpAnyH_take (i := 5) (oi := Oper.mk (some 39) _ _ _ _ _) (v := .agg (rv r).toArray) rfl (by kernel_rfl) (by kernel_rfl) (by kernel_rfl) (fun _ _ _ h => h) (yieldsIf_load_mid rfl _ _ rfl g 0 rfl (rv r) dd (fun w h => h.1.range) d1.out d2 (by rw [d3.out, hrl.out])) hD ?_
  simp only [Act.put, List.setIfInBounds_toArray, List.set_cons_zero, List.set_cons_succ]
  try dsimp only
  refine wpAnyH_ready (rs := [4]) (by kernel_rfl) (by simp) ?_
  refine AllReadyH.cons rfl (fun K hK => ?_) AllReadyH.nil
  go_simp
  refine (hnm _).mono ?_
  rintro e w2 ⟨rfl, hb2⟩
  have hS2 := hD.since hb2
  clear hb2
  dsimp only
  refine hK.out _ _ hS2 (fun _ => ?_)
  clear hK K
  refine wpAnyH_take (i := 6) (oi := Oper.mk (some 40) _ _ _ _ _) (v := ?_) rfl (by kernel_rfl) (by kernel_rfl) (by kernel_rfl) (fun _ _ _ h => h) (Or.inl ⟨by rfl, ?_⟩) hS2 ?_
  rotate_left
  · intro w hSw
    go_simp
    try with_reducible rfl
  simp only [Act.put, List.setIfInBounds_toArray, List.set_cons_zero, List.set_cons_succ]
  try dsimp only
  refine wpAnyH_take (i := 7) (oi := Oper.mk (some 41) _ _ _ _ _) (v := ?_) rfl (by kernel_rfl) (by kernel_rfl) (by kernel_rfl) (fun _ _ _ h => h) (Or.inl ⟨by rfl, ?_⟩) hS2 ?_
  rotate_left
  · intro w hSw
    go_simp
    try with_reducible rfl
  simp only [Act.put, List.setIfInBounds_toArray, List.set_cons_zero, List.set_cons_succ]
  try dsimp only
  refine wpAnyH_done (by kernel_rfl) ?_ _
  replace hkd := hkd.out
  replace h8 := h8.out
  obtain ⟨kind, seq, role, who, epoch, code, nonce⟩ := r
  simp only at hkd hse hro hwh hep hco h8
  clear hD hq hnm
  obtain rfl := hkd
  · -- kind 131
    have ho := (lit_one w2 131 (by decide)).own (base := w2.heap.size) (Nat.le_refl _)
    have hb := below_new w2 (.cells #[.int .u8 131] 5)
    have d0 := (rv_cells hS2.1).1
    obtain ⟨c0, c1, c2, c3, c4, c5⟩ := rv_cells (hS2.since hb).1
    obtain ⟨n, rfl⟩ : ∃ n : Nat, seq = n := ⟨seq.toNat, by omega⟩
    have hso := octs_len 4 n
    replace hso := Lib.hid hso
    go_wp2_with fail
    refine (rput_ok (n : Int) 4 n 4 _ rfl rfl (by decide) (by omega) (by omega)).mono ?_
    rintro e w4 ⟨v4, rfl, ho4, hb4⟩
    have ho3 := ho.since hb4
    have hb := hb.trans (hb4.mono hb.size)
    obtain ⟨A4, c4', rfl, hs4⟩ := ho4.seen_at hso.out
    clear ho hb4 ho4 d0 c0 c1 c2 c3 c4 c5
    go_wp2_with (at_builtin; refine wpList_append_own_any _ rfl _ _ rfl w2.heap.size _ [u1 131] rfl ho3 A4 4 c4' rfl (octs 4 n) hso.out hs4 (by rw [hso.out]; simp) hb.size ?_)
    intro v5 w5 ho hg5 hat5
    have hb := ho3.grew hb (Nat.le_refl _) hb.size hg5
    clear ho3 hs4 hg5 hat5
    have hw7 := hS2.2.trans (hb.mono hS2.2.size)
    have hz := hS2.2.size
    clear hS2 hb
    go_wp2
    go_ret2
    exact ⟨_, rfl, by have h := ho.mono hz; simpa [replyB] using h, hw7⟩
set_option maxRecDepth 100000 in
set_option maxHeartbeats 4000000 in
theorem refPutR_133 (r : R) (w : World) (h8 : r.nonce.length = 8) (h : okR r = true) (hkd : r.kind = 133) : Calls Try.prog 16 #[.agg (rv r).toArray] w fun e w' => ∃ v, e = .returned (.tuple #[v, .int .i64 0]) ∧ Own w' w.heap.size v (replyB r) ∧ Below w.heap.size w w' := by
  have hA := Arr.new w (rv r) 28
  have hw := below_new w (.cells (rv r).toArray 28)
  have hS0 : Ry w w.heap.size r (w.alloc (.cells (rv r).toArray 28)) := ⟨hA, hw⟩
  obtain ⟨c0, c1, c2, c3, c4, c5⟩ := rv_cells hA
  have hnm := fun W => replies_ok r h8 W
  have hq := fun W => neq_reply (namedR r) r (namedR_eight r h8) h8 W
  have hrl := rv_len r h8
  obtain ⟨dd, d1, d2, d3⟩ := rowB_spec (P := Try.prog) (ty := 28) (n := 14) (by kernel_rfl)
  replace d1 := Lib.hid d1
  replace d3 := Lib.hid d3
  replace hrl := Lib.hid hrl
  obtain ⟨bk, hbk⟩ : ∃ b, inI r.kind 129 136 = b := ⟨_, rfl⟩
  obtain ⟨bs, hbs⟩ : ∃ b, inI r.seq 0 4294967295 = b := ⟨_, rfl⟩
  obtain ⟨br, hbr⟩ : ∃ b, inI r.role 0 3 = b := ⟨_, rfl⟩
  obtain ⟨bw, hbw⟩ : ∃ b, inI r.who 0 4 = b := ⟨_, rfl⟩
  obtain ⟨be, hbe⟩ : ∃ b, inI r.epoch 0 65535 = b := ⟨_, rfl⟩
  obtain ⟨bc, hbc⟩ : ∃ b, inI r.code 0 255 = b := ⟨_, rfl⟩
  obtain ⟨hnd, hkk, hse, hro, hwh, hep, hco⟩ := okR_parts h
  have hall : bk = true ∧ bs = true ∧ br = true ∧ bw = true ∧ be = true ∧ bc = true := by
    unfold okR fitsR at h
    rw [hbk, hbs, hbr, hbw, hbe, hbc] at h
    simp only [Bool.and_eq_true] at h
    exact ⟨h.1.1.1.1.1.1, h.1.1.1.1.1.2, h.1.1.1.1.2, h.1.1.1.2, h.1.1.2, h.1.2⟩
  rw [decide_eq_true hnd] at hq
  obtain ⟨rfl, rfl, rfl, rfl, rfl, rfl⟩ := hall
  clear h hnd hkk
  replace hkd := Lib.hid hkd
  replace h8 := Lib.hid h8
  replace hbk := Lib.hid hbk
  replace hbs := Lib.hid hbs
  replace hbr := Lib.hid hbr
  replace hbw := Lib.hid hbw
  replace hbe := Lib.hid hbe
  replace hbc := Lib.hid hbc
  clear hA hw
  go_enter Try.func16, Try.ntmps16
  try dsimp only [List.append]
  go_wp2_with fail
  refine (in_ok _ _ _ true _ hbk.out).mono ?_
  rintro e w' ⟨rfl, rfl⟩
  go_wp2_with fail
  refine (in_ok _ _ _ true _ hbs.out).mono ?_
  rintro e w' ⟨rfl, rfl⟩
  go_wp2_with fail
  refine (in_ok _ _ _ true _ hbr.out).mono ?_
  rintro e w' ⟨rfl, rfl⟩
  go_wp2_with fail
  refine (in_ok _ _ _ true _ hbw.out).mono ?_
  rintro e w' ⟨rfl, rfl⟩
  go_wp2_with fail
  refine (in_ok _ _ _ true _ hbe.out).mono ?_
  rintro e w' ⟨rfl, rfl⟩
  go_wp2_with fail
  refine (in_ok _ _ _ true _ hbc.out).mono ?_
  rintro e w' ⟨rfl, rfl⟩
  clear c0 c1 c2 c3 c4 c5
  generalize w.alloc (.cells (rv r).toArray 28) = w1 at hS0 ⊢
  obtain ⟨g, hgl⟩ : ∃ g, g = w.heap.size := ⟨_, rfl⟩
  rw [← hgl] at hS0
  simp only [← hgl]
  replace hgl := Lib.hid hgl
  have hD : Ry w g r w1.drew := hS0.since (Below.drew (Below.refl _ _))
  go_wp2_with fail
  refine wp_region_held_drew (S := Ry w g r) (by kernel_rfl) hD (fun _ => ?_)
  refine wpAnyH_take (i := 0) (oi := Oper.mk (some 34) _ _ _ _ _) (v := ?_) rfl (by kernel_rfl) (by kernel_rfl) (by kernel_rfl) (fun _ _ _ h => h) (Or.inl ⟨by rfl, ?_⟩) hD ?_
  rotate_left
  · intro w hSw
    go_simp
    try with_reducible rfl
  simp only [Act.put, List.setIfInBounds_toArray, List.set_cons_zero, List.set_cons_succ]
  try dsimp only
  refine wpAnyH_take (i := 1) (oi := Oper.mk (some 35) _ _ _ _ _) (v := ?_) rfl (by kernel_rfl) (by kernel_rfl) (by kernel_rfl) (fun _ _ _ h => h) (Or.inl ⟨by rfl, ?_⟩) hD ?_
  rotate_left
  · intro w hSw
    go_simp
    try with_reducible rfl
  simp only [Act.put, List.setIfInBounds_toArray, List.set_cons_zero, List.set_cons_succ]
  try dsimp only
  refine wpAnyH_take (i := 2) (oi := Oper.mk (some 36) _ _ _ _ _) (v := ?_) rfl (by kernel_rfl) (by kernel_rfl) (by kernel_rfl) (fun _ _ _ h => h) (Or.inl ⟨by rfl, ?_⟩) hD ?_
  rotate_left
  · intro w hSw
    go_simp
    try with_reducible rfl
  simp only [Act.put, List.setIfInBounds_toArray, List.set_cons_zero, List.set_cons_succ]
  try dsimp only
  refine wpAnyH_take (i := 3) (oi := Oper.mk (some 37) _ _ _ _ _) (v := .agg (rv r).toArray) rfl (by kernel_rfl) (by kernel_rfl) (by kernel_rfl) (fun _ _ _ h => h) (yieldsIf_load_mid rfl _ _ rfl g 0 rfl (rv r) dd (fun w h => h.1.range) d1.out d2 (by rw [d3.out, hrl.out])) hD ?_
  simp only [Act.put, List.setIfInBounds_toArray, List.set_cons_zero, List.set_cons_succ]
  try dsimp only
  refine wpAnyH_take (i := 5) (oi := Oper.mk (some 39) _ _ _ _ _) (v := .agg (rv r).toArray) rfl (by kernel_rfl) (by kernel_rfl) (by kernel_rfl) (fun _ _ _ h => h) (yieldsIf_load_mid rfl _ _ rfl g 0 rfl (rv r) dd (fun w h => h.1.range) d1.out d2 (by rw [d3.out, hrl.out])) hD ?_
  simp only [Act.put, List.setIfInBounds_toArray, List.set_cons_zero, List.set_cons_succ]
  try dsimp only
  refine wpAnyH_ready (rs := [4]) (by kernel_rfl) (by simp) ?_
  refine AllReadyH.cons rfl (fun K hK => ?_) AllReadyH.nil
  go_simp
  refine (hnm _).mono ?_
  rintro e w2 ⟨rfl, hb2⟩
  have hS2 := hD.since hb2
  clear hb2
  dsimp only
  refine hK.out _ _ hS2 (fun _ => ?_)
  clear hK K
  refine wpAnyH_take (i := 6) (oi := Oper.mk (some 40) _ _ _ _ _) (v := ?_) rfl (by kernel_rfl) (by kernel_rfl) (by kernel_rfl) (fun _ _ _ h => h) (Or.inl ⟨by rfl, ?_⟩) hS2 ?_
  rotate_left
  · intro w hSw
    go_simp
    try with_reducible rfl
  simp only [Act.put, List.setIfInBounds_toArray, List.set_cons_zero, List.set_cons_succ]
  try dsimp only
  refine wpAnyH_take (i := 7) (oi := Oper.mk (some 41) _ _ _ _ _) (v := ?_) rfl (by kernel_rfl) (by kernel_rfl) (by kernel_rfl) (fun _ _ _ h => h) (Or.inl ⟨by rfl, ?_⟩) hS2 ?_
  rotate_left
  · intro w hSw
    go_simp
    try with_reducible rfl
  simp only [Act.put, List.setIfInBounds_toArray, List.set_cons_zero, List.set_cons_succ]
  try dsimp only
  refine wpAnyH_done (by kernel_rfl) ?_ _
  replace hkd := hkd.out
  replace h8 := h8.out
  obtain ⟨kind, seq, role, who, epoch, code, nonce⟩ := r
  simp only at hkd hse hro hwh hep hco h8
  clear hD hq hnm
  obtain rfl := hkd
  · -- kind 133
    have ho := (lit_one w2 133 (by decide)).own (base := w2.heap.size) (Nat.le_refl _)
    have hb := below_new w2 (.cells #[.int .u8 133] 5)
    have d0 := (rv_cells hS2.1).1
    obtain ⟨c0, c1, c2, c3, c4, c5⟩ := rv_cells (hS2.since hb).1
    obtain ⟨n, rfl⟩ : ∃ n : Nat, epoch = n := ⟨epoch.toNat, by omega⟩
    have hso := octs_len 2 n
    replace hso := Lib.hid hso
    go_wp2_with fail
    refine (rput_ok (n : Int) 2 n 2 _ rfl rfl (by decide) (by omega) (by omega)).mono ?_
    rintro e w4 ⟨v4, rfl, ho4, hb4⟩
    have ho3 := ho.since hb4
    have hb := hb.trans (hb4.mono hb.size)
    obtain ⟨A4, c4', rfl, hs4⟩ := ho4.seen_at hso.out
    clear ho hb4 ho4 d0 c0 c1 c2 c3 c4 c5
    go_wp2_with (at_builtin; refine wpList_append_own_any _ rfl _ _ rfl w2.heap.size _ [u1 133] rfl ho3 A4 2 c4' rfl (octs 2 n) hso.out hs4 (by rw [hso.out]; simp) hb.size ?_)
    intro v5 w5 ho hg5 hat5
    have hb := ho3.grew hb (Nat.le_refl _) hb.size hg5
    clear ho3 hs4 hg5 hat5
    have hw7 := hS2.2.trans (hb.mono hS2.2.size)
    have hz := hS2.2.size
    clear hS2 hb
    go_wp2
    go_ret2
    exact ⟨_, rfl, by have h := ho.mono hz; simpa [replyB] using h, hw7⟩
set_option maxRecDepth 100000 in
set_option maxHeartbeats 4000000 in
theorem refPutR_136 (r : R) (w : World) (h8 : r.nonce.length = 8) (h : okR r = true) (hkd : r.kind = 136) : Calls Try.prog 16 #[.agg (rv r).toArray] w fun e w' => ∃ v, e = .returned (.tuple #[v, .int .i64 0]) ∧ Own w' w.heap.size v (replyB r) ∧ Below w.heap.size w w' := by
  have hA := Arr.new w (rv r) 28
  have hw := below_new w (.cells (rv r).toArray 28)
  have hS0 : Ry w w.heap.size r (w.alloc (.cells (rv r).toArray 28)) := ⟨hA, hw⟩
  obtain ⟨c0, c1, c2, c3, c4, c5⟩ := rv_cells hA
  have hnm := fun W => replies_ok r h8 W
  have hq := fun W => neq_reply (namedR r) r (namedR_eight r h8) h8 W
  have hrl := rv_len r h8
  obtain ⟨dd, d1, d2, d3⟩ := rowB_spec (P := Try.prog) (ty := 28) (n := 14) (by kernel_rfl)
  replace d1 := Lib.hid d1
  replace d3 := Lib.hid d3
  replace hrl := Lib.hid hrl
  obtain ⟨bk, hbk⟩ : ∃ b, inI r.kind 129 136 = b := ⟨_, rfl⟩
  obtain ⟨bs, hbs⟩ : ∃ b, inI r.seq 0 4294967295 = b := ⟨_, rfl⟩
  obtain ⟨br, hbr⟩ : ∃ b, inI r.role 0 3 = b := ⟨_, rfl⟩
  obtain ⟨bw, hbw⟩ : ∃ b, inI r.who 0 4 = b := ⟨_, rfl⟩
  obtain ⟨be, hbe⟩ : ∃ b, inI r.epoch 0 65535 = b := ⟨_, rfl⟩
  obtain ⟨bc, hbc⟩ : ∃ b, inI r.code 0 255 = b := ⟨_, rfl⟩
  obtain ⟨hnd, hkk, hse, hro, hwh, hep, hco⟩ := okR_parts h
  have hall : bk = true ∧ bs = true ∧ br = true ∧ bw = true ∧ be = true ∧ bc = true := by
    unfold okR fitsR at h
    rw [hbk, hbs, hbr, hbw, hbe, hbc] at h
    simp only [Bool.and_eq_true] at h
    exact ⟨h.1.1.1.1.1.1, h.1.1.1.1.1.2, h.1.1.1.1.2, h.1.1.1.2, h.1.1.2, h.1.2⟩
  rw [decide_eq_true hnd] at hq
  obtain ⟨rfl, rfl, rfl, rfl, rfl, rfl⟩ := hall
  clear h hnd hkk
  replace hkd := Lib.hid hkd
  replace h8 := Lib.hid h8
  replace hbk := Lib.hid hbk
  replace hbs := Lib.hid hbs
  replace hbr := Lib.hid hbr
  replace hbw := Lib.hid hbw
  replace hbe := Lib.hid hbe
  replace hbc := Lib.hid hbc
  clear hA hw
  go_enter Try.func16, Try.ntmps16
  try dsimp only [List.append]
  go_wp2_with fail
  refine (in_ok _ _ _ true _ hbk.out).mono ?_
  rintro e w' ⟨rfl, rfl⟩
  go_wp2_with fail
  refine (in_ok _ _ _ true _ hbs.out).mono ?_
  rintro e w' ⟨rfl, rfl⟩
  go_wp2_with fail
  refine (in_ok _ _ _ true _ hbr.out).mono ?_
  rintro e w' ⟨rfl, rfl⟩
  go_wp2_with fail
  refine (in_ok _ _ _ true _ hbw.out).mono ?_
  rintro e w' ⟨rfl, rfl⟩
  go_wp2_with fail
  refine (in_ok _ _ _ true _ hbe.out).mono ?_
  rintro e w' ⟨rfl, rfl⟩
  go_wp2_with fail
  refine (in_ok _ _ _ true _ hbc.out).mono ?_
  rintro e w' ⟨rfl, rfl⟩
  clear c0 c1 c2 c3 c4 c5
  generalize w.alloc (.cells (rv r).toArray 28) = w1 at hS0 ⊢
  obtain ⟨g, hgl⟩ : ∃ g, g = w.heap.size := ⟨_, rfl⟩
  rw [← hgl] at hS0
  simp only [← hgl]
  replace hgl := Lib.hid hgl
  have hD : Ry w g r w1.drew := hS0.since (Below.drew (Below.refl _ _))
  go_wp2_with fail
  refine wp_region_held_drew (S := Ry w g r) (by kernel_rfl) hD (fun _ => ?_)
  refine wpAnyH_take (i := 0) (oi := Oper.mk (some 34) _ _ _ _ _) (v := ?_) rfl (by kernel_rfl) (by kernel_rfl) (by kernel_rfl) (fun _ _ _ h => h) (Or.inl ⟨by rfl, ?_⟩) hD ?_
  rotate_left
  · intro w hSw
    go_simp
    try with_reducible rfl
  simp only [Act.put, List.setIfInBounds_toArray, List.set_cons_zero, List.set_cons_succ]
  try dsimp only
  refine wpAnyH_take (i := 1) (oi := Oper.mk (some 35) _ _ _ _ _) (v := ?_) rfl (by kernel_rfl) (by kernel_rfl) (by kernel_rfl) (fun _ _ _ h => h) (Or.inl ⟨by rfl, ?_⟩) hD ?_
  rotate_left
  · intro w hSw
    go_simp
    try with_reducible rfl
  simp only [Act.put, List.setIfInBounds_toArray, List.set_cons_zero, List.set_cons_succ]
  try dsimp only
  refine wpAnyH_take (i := 2) (oi := Oper.mk (some 36) _ _ _ _ _) (v := ?_) rfl (by kernel_rfl) (by kernel_rfl) (by kernel_rfl) (fun _ _ _ h => h) (Or.inl ⟨by rfl, ?_⟩) hD ?_
  rotate_left
  · intro w hSw
    go_simp
    try with_reducible rfl
  simp only [Act.put, List.setIfInBounds_toArray, List.set_cons_zero, List.set_cons_succ]
  try dsimp only
  refine wpAnyH_take (i := 3) (oi := Oper.mk (some 37) _ _ _ _ _) (v := .agg (rv r).toArray) rfl (by kernel_rfl) (by kernel_rfl) (by kernel_rfl) (fun _ _ _ h => h) (yieldsIf_load_mid rfl _ _ rfl g 0 rfl (rv r) dd (fun w h => h.1.range) d1.out d2 (by rw [d3.out, hrl.out])) hD ?_
  simp only [Act.put, List.setIfInBounds_toArray, List.set_cons_zero, List.set_cons_succ]
  try dsimp only
  refine wpAnyH_take (i := 5) (oi := Oper.mk (some 39) _ _ _ _ _) (v := .agg (rv r).toArray) rfl (by kernel_rfl) (by kernel_rfl) (by kernel_rfl) (fun _ _ _ h => h) (yieldsIf_load_mid rfl _ _ rfl g 0 rfl (rv r) dd (fun w h => h.1.range) d1.out d2 (by rw [d3.out, hrl.out])) hD ?_
  simp only [Act.put, List.setIfInBounds_toArray, List.set_cons_zero, List.set_cons_succ]
  try dsimp only
  refine wpAnyH_ready (rs := [4]) (by kernel_rfl) (by simp) ?_
  refine AllReadyH.cons rfl (fun K hK => ?_) AllReadyH.nil
  go_simp
  refine (hnm _).mono ?_
  rintro e w2 ⟨rfl, hb2⟩
  have hS2 := hD.since hb2
  clear hb2
  dsimp only
  refine hK.out _ _ hS2 (fun _ => ?_)
  clear hK K
  refine wpAnyH_take (i := 6) (oi := Oper.mk (some 40) _ _ _ _ _) (v := ?_) rfl (by kernel_rfl) (by kernel_rfl) (by kernel_rfl) (fun _ _ _ h => h) (Or.inl ⟨by rfl, ?_⟩) hS2 ?_
  rotate_left
  · intro w hSw
    go_simp
    try with_reducible rfl
  simp only [Act.put, List.setIfInBounds_toArray, List.set_cons_zero, List.set_cons_succ]
  try dsimp only
  refine wpAnyH_take (i := 7) (oi := Oper.mk (some 41) _ _ _ _ _) (v := ?_) rfl (by kernel_rfl) (by kernel_rfl) (by kernel_rfl) (fun _ _ _ h => h) (Or.inl ⟨by rfl, ?_⟩) hS2 ?_
  rotate_left
  · intro w hSw
    go_simp
    try with_reducible rfl
  simp only [Act.put, List.setIfInBounds_toArray, List.set_cons_zero, List.set_cons_succ]
  try dsimp only
  refine wpAnyH_done (by kernel_rfl) ?_ _
  replace hkd := hkd.out
  replace h8 := h8.out
  obtain ⟨kind, seq, role, who, epoch, code, nonce⟩ := r
  simp only at hkd hse hro hwh hep hco h8
  clear hD hq hnm
  obtain rfl := hkd
  · -- kind 136
    have ho := (lit_one w2 136 (by decide)).own (base := w2.heap.size) (Nat.le_refl _)
    have hb := below_new w2 (.cells #[.int .u8 136] 5)
    have d0 := (rv_cells hS2.1).1
    obtain ⟨c0, c1, c2, c3, c4, c5⟩ := rv_cells (hS2.since hb).1
    have hr := (lit_two (w2.alloc (.cells #[.int .u8 136] 5)) who code (by omega) (by omega)).seen
    rw [World.size_alloc] at hr
    have ho' := ho.alloc (.cells #[.int .u8 who, .int .u8 code] 5)
    have hb' := hb.alloc hb.size (.cells #[.int .u8 who, .int .u8 code] 5)
    go_wp2_with (at_builtin; refine wpList_append_own_any _ rfl _ _ rfl w2.heap.size _ [u1 136] rfl ho' _ 2 2 rfl [u1 who, u1 code] rfl hr (by simp) hb'.size ?_)
    intro v5 w5 ho5 hg5 hat5
    have hb := ho'.grew hb' (Nat.le_refl _) hb'.size hg5
    clear ho hr ho' hb' hg5 hat5 d0 c0 c1 c2 c3 c4 c5
    have hw7 := hS2.2.trans (hb.mono hS2.2.size)
    have hz := hS2.2.size
    clear hS2 hb
    go_wp2
    go_ret2
    exact ⟨_, rfl, by have h := ho5.mono hz; simpa [replyB] using h, hw7⟩
theorem cut8 (g : Nat) (W : World) : (Instr.sliceAt 26 (.pointer (some ⟨g, 6, none⟩)) none none none).run Try.prog W = .ok (.slice (some ⟨g, 6, none⟩) 8 8) W := by
  have hl : Try.prog.arrayLen 26 = 8 := by simp [Program.arrayLen, Try.underlying26]
  have he : Try.prog.elem 26 = 5 := by simp [Program.elem, Try.underlying26]
  have ht : Try.prog.underlying 26 = some (.array (Try.prog.arrayLen 26) (Try.prog.elem 26)) := by rw [hl, he]; exact Try.underlying26
  rw [run_sliceAt_array_all W _ _ ht, he, hl, size_u8]
  simp [Result.andThen, slicedAt, Addr.add]
theorem nonce_seen {W : World} {g : Nat} {r : R} (h : Arr W g (rv r)) : Seen W (some ⟨g, 6, none⟩) r.nonce := by
  intro _
  refine ⟨g, 6, rfl, h.lt, fun i hi => h.cell ?_⟩
  rw [rv, List.getElem?_append_right (by simp)]
  show (vals r.nonce)[6 + i - 6]? = _
  rw [Nat.add_sub_cancel_left, vals_get hi]
set_option maxRecDepth 100000 in
set_option maxHeartbeats 4000000 in
theorem refPutR_129 (r : R) (w : World) (h8 : r.nonce.length = 8) (h : okR r = true) (hkd : r.kind = 129) : Calls Try.prog 16 #[.agg (rv r).toArray] w fun e w' => ∃ v, e = .returned (.tuple #[v, .int .i64 0]) ∧ Own w' w.heap.size v (replyB r) ∧ Below w.heap.size w w' := by
  have hA := Arr.new w (rv r) 28
  have hw := below_new w (.cells (rv r).toArray 28)
  have hS0 : Ry w w.heap.size r (w.alloc (.cells (rv r).toArray 28)) := ⟨hA, hw⟩
  obtain ⟨c0, c1, c2, c3, c4, c5⟩ := rv_cells hA
  have hnm := fun W => replies_ok r h8 W
  have hq := fun W => neq_reply (namedR r) r (namedR_eight r h8) h8 W
  have hrl := rv_len r h8
  obtain ⟨dd, d1, d2, d3⟩ := rowB_spec (P := Try.prog) (ty := 28) (n := 14) (by kernel_rfl)
  replace d1 := Lib.hid d1
  replace d3 := Lib.hid d3
  replace hrl := Lib.hid hrl
  obtain ⟨bk, hbk⟩ : ∃ b, inI r.kind 129 136 = b := ⟨_, rfl⟩
  obtain ⟨bs, hbs⟩ : ∃ b, inI r.seq 0 4294967295 = b := ⟨_, rfl⟩
  obtain ⟨br, hbr⟩ : ∃ b, inI r.role 0 3 = b := ⟨_, rfl⟩
  obtain ⟨bw, hbw⟩ : ∃ b, inI r.who 0 4 = b := ⟨_, rfl⟩
  obtain ⟨be, hbe⟩ : ∃ b, inI r.epoch 0 65535 = b := ⟨_, rfl⟩
  obtain ⟨bc, hbc⟩ : ∃ b, inI r.code 0 255 = b := ⟨_, rfl⟩
  obtain ⟨hnd, hkk, hse, hro, hwh, hep, hco⟩ := okR_parts h
  have hall : bk = true ∧ bs = true ∧ br = true ∧ bw = true ∧ be = true ∧ bc = true := by
    unfold okR fitsR at h
    rw [hbk, hbs, hbr, hbw, hbe, hbc] at h
    simp only [Bool.and_eq_true] at h
    exact ⟨h.1.1.1.1.1.1, h.1.1.1.1.1.2, h.1.1.1.1.2, h.1.1.1.2, h.1.1.2, h.1.2⟩
  rw [decide_eq_true hnd] at hq
  obtain ⟨rfl, rfl, rfl, rfl, rfl, rfl⟩ := hall
  clear h hnd hkk
  replace hkd := Lib.hid hkd
  replace h8 := Lib.hid h8
  replace hbk := Lib.hid hbk
  replace hbs := Lib.hid hbs
  replace hbr := Lib.hid hbr
  replace hbw := Lib.hid hbw
  replace hbe := Lib.hid hbe
  replace hbc := Lib.hid hbc
  clear hA hw
  go_enter Try.func16, Try.ntmps16
  try dsimp only [List.append]
  go_wp2_with fail
  refine (in_ok _ _ _ true _ hbk.out).mono ?_
  rintro e w' ⟨rfl, rfl⟩
  go_wp2_with fail
  refine (in_ok _ _ _ true _ hbs.out).mono ?_
  rintro e w' ⟨rfl, rfl⟩
  go_wp2_with fail
  refine (in_ok _ _ _ true _ hbr.out).mono ?_
  rintro e w' ⟨rfl, rfl⟩
  go_wp2_with fail
  refine (in_ok _ _ _ true _ hbw.out).mono ?_
  rintro e w' ⟨rfl, rfl⟩
  go_wp2_with fail
  refine (in_ok _ _ _ true _ hbe.out).mono ?_
  rintro e w' ⟨rfl, rfl⟩
  go_wp2_with fail
  refine (in_ok _ _ _ true _ hbc.out).mono ?_
  rintro e w' ⟨rfl, rfl⟩
  clear c0 c1 c2 c3 c4 c5
  generalize w.alloc (.cells (rv r).toArray 28) = w1 at hS0 ⊢
  obtain ⟨g, hgl⟩ : ∃ g, g = w.heap.size := ⟨_, rfl⟩
  rw [← hgl] at hS0
  simp only [← hgl]
  replace hgl := Lib.hid hgl
  have hD : Ry w g r w1.drew := hS0.since (Below.drew (Below.refl _ _))
  go_wp2_with fail
  refine wp_region_held_drew (S := Ry w g r) (by kernel_rfl) hD (fun _ => ?_)
  refine wpAnyH_take (i := 0) (oi := Oper.mk (some 34) _ _ _ _ _) (v := ?_) rfl (by kernel_rfl) (by kernel_rfl) (by kernel_rfl) (fun _ _ _ h => h) (Or.inl ⟨by rfl, ?_⟩) hD ?_
  rotate_left
  · intro w hSw
    go_simp
    try with_reducible rfl
  simp only [Act.put, List.setIfInBounds_toArray, List.set_cons_zero, List.set_cons_succ]
  try dsimp only
  refine wpAnyH_take (i := 1) (oi := Oper.mk (some 35) _ _ _ _ _) (v := ?_) rfl (by kernel_rfl) (by kernel_rfl) (by kernel_rfl) (fun _ _ _ h => h) (Or.inl ⟨by rfl, ?_⟩) hD ?_
  rotate_left
  · intro w hSw
    go_simp
    try with_reducible rfl
  simp only [Act.put, List.setIfInBounds_toArray, List.set_cons_zero, List.set_cons_succ]
  try dsimp only
  refine wpAnyH_take (i := 2) (oi := Oper.mk (some 36) _ _ _ _ _) (v := ?_) rfl (by kernel_rfl) (by kernel_rfl) (by kernel_rfl) (fun _ _ _ h => h) (Or.inl ⟨by rfl, ?_⟩) hD ?_
  rotate_left
  · intro w hSw
    go_simp
    try with_reducible rfl
  simp only [Act.put, List.setIfInBounds_toArray, List.set_cons_zero, List.set_cons_succ]
  try dsimp only
  refine wpAnyH_take (i := 3) (oi := Oper.mk (some 37) _ _ _ _ _) (v := .agg (rv r).toArray) rfl (by kernel_rfl) (by kernel_rfl) (by kernel_rfl) (fun _ _ _ h => h) (yieldsIf_load_mid rfl _ _ rfl g 0 rfl (rv r) dd (fun w h => h.1.range) d1.out d2 (by rw [d3.out, hrl.out])) hD ?_
  simp only [Act.put, List.setIfInBounds_toArray, List.set_cons_zero, List.set_cons_succ]
  try dsimp only
  refine wpAnyH_take (i := 5) (oi := Oper.mk (some 39) _ _ _ _ _) (v := .agg (rv r).toArray) rfl (by kernel_rfl) (by kernel_rfl) (by kernel_rfl) (fun _ _ _ h => h) (yieldsIf_load_mid rfl _ _ rfl g 0 rfl (rv r) dd (fun w h => h.1.range) d1.out d2 (by rw [d3.out, hrl.out])) hD ?_
  simp only [Act.put, List.setIfInBounds_toArray, List.set_cons_zero, List.set_cons_succ]
  try dsimp only
  refine wpAnyH_ready (rs := [4]) (by kernel_rfl) (by simp) ?_
  refine AllReadyH.cons rfl (fun K hK => ?_) AllReadyH.nil
  go_simp
  refine (hnm _).mono ?_
  rintro e w2 ⟨rfl, hb2⟩
  have hS2 := hD.since hb2
  clear hb2
  dsimp only
  refine hK.out _ _ hS2 (fun _ => ?_)
  clear hK K
  refine wpAnyH_take (i := 6) (oi := Oper.mk (some 40) _ _ _ _ _) (v := ?_) rfl (by kernel_rfl) (by kernel_rfl) (by kernel_rfl) (fun _ _ _ h => h) (Or.inl ⟨by rfl, ?_⟩) hS2 ?_
  rotate_left
  · intro w hSw
    go_simp
    try with_reducible rfl
  simp only [Act.put, List.setIfInBounds_toArray, List.set_cons_zero, List.set_cons_succ]
  try dsimp only
  refine wpAnyH_take (i := 7) (oi := Oper.mk (some 41) _ _ _ _ _) (v := ?_) rfl (by kernel_rfl) (by kernel_rfl) (by kernel_rfl) (fun _ _ _ h => h) (Or.inl ⟨by rfl, ?_⟩) hS2 ?_
  rotate_left
  · intro w hSw
    go_simp
    try with_reducible rfl
  simp only [Act.put, List.setIfInBounds_toArray, List.set_cons_zero, List.set_cons_succ]
  try dsimp only
  refine wpAnyH_done (by kernel_rfl) ?_ _
  replace hkd := hkd.out
  replace h8 := h8.out
  obtain ⟨kind, seq, role, who, epoch, code, nonce⟩ := r
  simp only at hkd hse hro hwh hep hco h8
  clear hD hq hnm
  obtain rfl := hkd
  · -- kind 129
    have ho := (lit_one w2 129 (by decide)).own (base := w2.heap.size) (Nat.le_refl _)
    have hb := below_new w2 (.cells #[.int .u8 129] 5)
    have d0 := (rv_cells hS2.1).1
    obtain ⟨c0, c1, c2, c3, c4, c5⟩ := rv_cells (hS2.since hb).1
    have hsn := nonce_seen (hS2.since hb).1
    have hcut := cut8 g
    replace h8 := Lib.hid h8
    go_wp2_with (at_builtin; refine wpList_append_own_any _ rfl _ _ rfl w2.heap.size _ [u1 129] rfl ho (some ⟨g, 6, none⟩) 8 8 rfl nonce h8.out hsn (by rw [h8.out]; simp) hb.size ?_)
    intro v5 w5 ho5 hg5 hat5
    have hb := ho.grew hb (Nat.le_refl _) hb.size hg5
    clear ho hsn hg5 hat5 d0 c0 c1 c2 c3 c4 c5
    have hw7 := hS2.2.trans (hb.mono hS2.2.size)
    have hz := hS2.2.size
    clear hS2 hb
    go_wp2
    go_ret2
    exact ⟨_, rfl, by have h := ho5.mono hz; simpa [replyB] using h, hw7⟩
set_option maxRecDepth 100000 in
set_option maxHeartbeats 4000000 in
theorem refPutR_132 (r : R) (w : World) (h8 : r.nonce.length = 8) (h : okR r = true) (hkd : r.kind = 132) : Calls Try.prog 16 #[.agg (rv r).toArray] w fun e w' => ∃ v, e = .returned (.tuple #[v, .int .i64 0]) ∧ Own w' w.heap.size v (replyB r) ∧ Below w.heap.size w w' := by
  have hA := Arr.new w (rv r) 28
  have hw := below_new w (.cells (rv r).toArray 28)
  have hS0 : Ry w w.heap.size r (w.alloc (.cells (rv r).toArray 28)) := ⟨hA, hw⟩
  obtain ⟨c0, c1, c2, c3, c4, c5⟩ := rv_cells hA
  have hnm := fun W => replies_ok r h8 W
  have hq := fun W => neq_reply (namedR r) r (namedR_eight r h8) h8 W
  have hrl := rv_len r h8
  obtain ⟨dd, d1, d2, d3⟩ := rowB_spec (P := Try.prog) (ty := 28) (n := 14) (by kernel_rfl)
  replace d1 := Lib.hid d1
  replace d3 := Lib.hid d3
  replace hrl := Lib.hid hrl
  obtain ⟨bk, hbk⟩ : ∃ b, inI r.kind 129 136 = b := ⟨_, rfl⟩
  obtain ⟨bs, hbs⟩ : ∃ b, inI r.seq 0 4294967295 = b := ⟨_, rfl⟩
  obtain ⟨br, hbr⟩ : ∃ b, inI r.role 0 3 = b := ⟨_, rfl⟩
  obtain ⟨bw, hbw⟩ : ∃ b, inI r.who 0 4 = b := ⟨_, rfl⟩
  obtain ⟨be, hbe⟩ : ∃ b, inI r.epoch 0 65535 = b := ⟨_, rfl⟩
  obtain ⟨bc, hbc⟩ : ∃ b, inI r.code 0 255 = b := ⟨_, rfl⟩
  obtain ⟨hnd, hkk, hse, hro, hwh, hep, hco⟩ := okR_parts h
  have hall : bk = true ∧ bs = true ∧ br = true ∧ bw = true ∧ be = true ∧ bc = true := by
    unfold okR fitsR at h
    rw [hbk, hbs, hbr, hbw, hbe, hbc] at h
    simp only [Bool.and_eq_true] at h
    exact ⟨h.1.1.1.1.1.1, h.1.1.1.1.1.2, h.1.1.1.1.2, h.1.1.1.2, h.1.1.2, h.1.2⟩
  rw [decide_eq_true hnd] at hq
  obtain ⟨rfl, rfl, rfl, rfl, rfl, rfl⟩ := hall
  clear h hnd hkk
  replace hkd := Lib.hid hkd
  replace h8 := Lib.hid h8
  replace hbk := Lib.hid hbk
  replace hbs := Lib.hid hbs
  replace hbr := Lib.hid hbr
  replace hbw := Lib.hid hbw
  replace hbe := Lib.hid hbe
  replace hbc := Lib.hid hbc
  clear hA hw
  go_enter Try.func16, Try.ntmps16
  try dsimp only [List.append]
  go_wp2_with fail
  refine (in_ok _ _ _ true _ hbk.out).mono ?_
  rintro e w' ⟨rfl, rfl⟩
  go_wp2_with fail
  refine (in_ok _ _ _ true _ hbs.out).mono ?_
  rintro e w' ⟨rfl, rfl⟩
  go_wp2_with fail
  refine (in_ok _ _ _ true _ hbr.out).mono ?_
  rintro e w' ⟨rfl, rfl⟩
  go_wp2_with fail
  refine (in_ok _ _ _ true _ hbw.out).mono ?_
  rintro e w' ⟨rfl, rfl⟩
  go_wp2_with fail
  refine (in_ok _ _ _ true _ hbe.out).mono ?_
  rintro e w' ⟨rfl, rfl⟩
  go_wp2_with fail
  refine (in_ok _ _ _ true _ hbc.out).mono ?_
  rintro e w' ⟨rfl, rfl⟩
  clear c0 c1 c2 c3 c4 c5
  generalize w.alloc (.cells (rv r).toArray 28) = w1 at hS0 ⊢
  obtain ⟨g, hgl⟩ : ∃ g, g = w.heap.size := ⟨_, rfl⟩
  rw [← hgl] at hS0
  simp only [← hgl]
  replace hgl := Lib.hid hgl
  have hD : Ry w g r w1.drew := hS0.since (Below.drew (Below.refl _ _))
  go_wp2_with fail
  refine wp_region_held_drew (S := Ry w g r) (by kernel_rfl) hD (fun _ => ?_)
  refine wpAnyH_take (i := 0) (oi := Oper.mk (some 34) _ _ _ _ _) (v := ?_) rfl (by kernel_rfl) (by kernel_rfl) (by kernel_rfl) (fun _ _ _ h => h) (Or.inl ⟨by rfl, ?_⟩) hD ?_
  rotate_left
  · intro w hSw
    go_simp
    try with_reducible rfl
  simp only [Act.put, List.setIfInBounds_toArray, List.set_cons_zero, List.set_cons_succ]
  try dsimp only
  refine wpAnyH_take (i := 1) (oi := Oper.mk (some 35) _ _ _ _ _) (v := ?_) rfl (by kernel_rfl) (by kernel_rfl) (by kernel_rfl) (fun _ _ _ h => h) (Or.inl ⟨by rfl, ?_⟩) hD ?_
  rotate_left
  · intro w hSw
    go_simp
    try with_reducible rfl
  simp only [Act.put, List.setIfInBounds_toArray, List.set_cons_zero, List.set_cons_succ]
  try dsimp only
  refine wpAnyH_take (i := 2) (oi := Oper.mk (some 36) _ _ _ _ _) (v := ?_) rfl (by kernel_rfl) (by kernel_rfl) (by kernel_rfl) (fun _ _ _ h => h) (Or.inl ⟨by rfl, ?_⟩) hD ?_
  rotate_left
  · intro w hSw
    go_simp
    try with_reducible rfl
  simp only [Act.put, List.setIfInBounds_toArray, List.set_cons_zero, List.set_cons_succ]
  try dsimp only
  refine wpAnyH_take (i := 3) (oi := Oper.mk (some 37) _ _ _ _ _) (v := .agg (rv r).toArray) rfl (by kernel_rfl) (by kernel_rfl) (by kernel_rfl) (fun _ _ _ h => h) (yieldsIf_load_mid rfl _ _ rfl g 0 rfl (rv r) dd (fun w h => h.1.range) d1.out d2 (by rw [d3.out, hrl.out])) hD ?_
  simp only [Act.put, List.setIfInBounds_toArray, List.set_cons_zero, List.set_cons_succ]
  try dsimp only
  refine wpAnyH_take (i := 5) (oi := Oper.mk (some 39) _ _ _ _ _) (v := .agg (rv r).toArray) rfl (by kernel_rfl) (by kernel_rfl) (by kernel_rfl) (fun _ _ _ h => h) (yieldsIf_load_mid rfl _ _ rfl g 0 rfl (rv r) dd (fun w h => h.1.range) d1.out d2 (by rw [d3.out, hrl.out])) hD ?_
  simp only [Act.put, List.setIfInBounds_toArray, List.set_cons_zero, List.set_cons_succ]
  try dsimp only
  refine wpAnyH_ready (rs := [4]) (by kernel_rfl) (by simp) ?_
  refine AllReadyH.cons rfl (fun K hK => ?_) AllReadyH.nil
  go_simp
  refine (hnm _).mono ?_
  rintro e w2 ⟨rfl, hb2⟩
  have hS2 := hD.since hb2
  clear hb2
  dsimp only
  refine hK.out _ _ hS2 (fun _ => ?_)
  clear hK K
  refine wpAnyH_take (i := 6) (oi := Oper.mk (some 40) _ _ _ _ _) (v := ?_) rfl (by kernel_rfl) (by kernel_rfl) (by kernel_rfl) (fun _ _ _ h => h) (Or.inl ⟨by rfl, ?_⟩) hS2 ?_
  rotate_left
  · intro w hSw
    go_simp
    try with_reducible rfl
  simp only [Act.put, List.setIfInBounds_toArray, List.set_cons_zero, List.set_cons_succ]
  try dsimp only
  refine wpAnyH_take (i := 7) (oi := Oper.mk (some 41) _ _ _ _ _) (v := ?_) rfl (by kernel_rfl) (by kernel_rfl) (by kernel_rfl) (fun _ _ _ h => h) (Or.inl ⟨by rfl, ?_⟩) hS2 ?_
  rotate_left
  · intro w hSw
    go_simp
    try with_reducible rfl
  simp only [Act.put, List.setIfInBounds_toArray, List.set_cons_zero, List.set_cons_succ]
  try dsimp only
  refine wpAnyH_done (by kernel_rfl) ?_ _
  replace hkd := hkd.out
  replace h8 := h8.out
  obtain ⟨kind, seq, role, who, epoch, code, nonce⟩ := r
  simp only at hkd hse hro hwh hep hco h8
  clear hD hq hnm
  obtain rfl := hkd
  · -- kind 132
    have ho := (lit_one w2 132 (by decide)).own (base := w2.heap.size) (Nat.le_refl _)
    have hb := below_new w2 (.cells #[.int .u8 132] 5)
    have d0 := (rv_cells hS2.1).1
    obtain ⟨c0, c1, c2, c3, c4, c5⟩ := rv_cells (hS2.since hb).1
    have hD : Ry w g _ (w2.alloc (.cells #[.int .u8 132] 5)).drew := (hS2.since hb).since (Below.drew (Below.refl _ _))
    have hb := hb.drew
    have hoD : Own (w2.alloc (.cells #[.int .u8 132] 5)).drew w2.heap.size (.slice (some ⟨w2.heap.size, 0, none⟩) 1 1) [u1 132] := ho
    clear ho
    have ho := hoD
    clear hoD
    obtain ⟨n, rfl⟩ : ∃ n : Nat, seq = n := ⟨seq.toNat, by omega⟩
    have hso := octs_len 4 n
    replace hso := Lib.hid hso
    go_wp2_with fail
    refine wp_region_held_drew (S := Ry w g _) (by kernel_rfl) hD (fun _ => ?_)
    refine wpAnyH_take (i := 0) (oi := Oper.mk (some 78) _ _ _ _ _) (v := ?_) rfl (by kernel_rfl) (by kernel_rfl) (by kernel_rfl) (fun _ _ _ h => h) (Or.inl ⟨by rfl, ?_⟩) hD ?_
    rotate_left
    · intro w hSw
      go_simp
      try with_reducible rfl
    simp only [Act.put, List.setIfInBounds_toArray, List.set_cons_zero, List.set_cons_succ]
    try dsimp only
    refine wpAnyH_take (i := 1) (oi := Oper.mk (some 79) _ _ _ _ _) (v := ?_) rfl (by kernel_rfl) (by kernel_rfl) (by kernel_rfl) (fun _ _ _ h => h) (Or.inl ⟨by rfl, ?_⟩) hD ?_
    rotate_left
    · intro w hSw
      go_simp
      try with_reducible rfl
    simp only [Act.put, List.setIfInBounds_toArray, List.set_cons_zero, List.set_cons_succ]
    try dsimp only
    refine wpAnyH_take (i := 2) (oi := Oper.mk (some 80) _ _ _ _ _) (v := ?_) rfl (by kernel_rfl) (by kernel_rfl) (by kernel_rfl) (fun _ _ _ h => h) (Or.inl ⟨by rfl, ?_⟩) hD ?_
    rotate_left
    · intro w hSw
      obtain ⟨c0, c1, c2, c3, c4, c5⟩ := rv_cells hSw.1
      go_simp
      try with_reducible rfl
    simp only [Act.put, List.setIfInBounds_toArray, List.set_cons_zero, List.set_cons_succ]
    try dsimp only
    refine wpAnyH_take (i := 5) (oi := Oper.mk (some 83) _ _ _ _ _) (v := ?_) rfl (by kernel_rfl) (by kernel_rfl) (by kernel_rfl) (fun _ _ _ h => h) (Or.inl ⟨by rfl, ?_⟩) hD ?_
    rotate_left
    · intro w hSw
      go_simp
      try with_reducible rfl
    simp only [Act.put, List.setIfInBounds_toArray, List.set_cons_zero, List.set_cons_succ]
    try dsimp only
    refine wpAnyH_take (i := 6) (oi := Oper.mk (some 84) _ _ _ _ _) (v := ?_) rfl (by kernel_rfl) (by kernel_rfl) (by kernel_rfl) (fun _ _ _ h => h) (Or.inl ⟨by rfl, ?_⟩) hD ?_
    rotate_left
    · intro w hSw
      obtain ⟨c0, c1, c2, c3, c4, c5⟩ := rv_cells hSw.1
      go_simp
      try with_reducible rfl
    simp only [Act.put, List.setIfInBounds_toArray, List.set_cons_zero, List.set_cons_succ]
    try dsimp only
    refine wpAnyH_take (i := 7) (oi := Oper.mk (some 85) _ _ _ _ _) (v := ?_) rfl (by kernel_rfl) (by kernel_rfl) (by kernel_rfl) (fun _ _ _ h => h) (Or.inl ⟨by rfl, ?_⟩) hD ?_
    rotate_left
    · intro w hSw
      go_simp
      try with_reducible rfl
    simp only [Act.put, List.setIfInBounds_toArray, List.set_cons_zero, List.set_cons_succ]
    try dsimp only
    have ewcode : IntKind.u8.wrap code = code := by rw [IntKind.wrap_u8]; omega
    simp only [ewcode]
    clear hD d0 c0 c1 c2 c3 c4 c5 ewcode
    generalize (w2.alloc (.cells #[.int .u8 132] 5)).drew = W at hb ho ⊢
    generalize (Value.slice (some ⟨w2.heap.size, 0, none⟩) 1 1) = v5 at ho ⊢
    refine wpAnyH_ready (rs := [3, 8]) (by kernel_rfl) (by simp) ?_
    refine AllReadyH.cons (o := Oper.mk (some 81) _ _ _ _ _) rfl (fun F hF => ?_) (AllReadyH.cons (o := Oper.mk (some 86) _ _ _ _ _) rfl (fun F hF => ?_) AllReadyH.nil)
    · have hlt : ∀ k, v5.ownBlock = some k → k < W.heap.size := fun k e => (ho.lt e).2
      go_simp
      refine (rput_ok (n : Int) 4 n 4 _ rfl rfl (by decide) (by omega) (by omega)).mono ?_
      rintro e wa ⟨v6, rfl, ho6, hb6⟩
      have ho := ho.since hb6
      have hb := hb.trans (hb6.mono hb.size)
      obtain ⟨A6, c6', rfl, hs6⟩ := ho6.seen_at hso.out
      have hn6 : ∀ k, v5.ownBlock = some k → ∀ a, A6 = some a → k ≠ a.block := fun k e a ha => by subst ha; have h1 := (ho6.lt (g := a.block) rfl).1; have h2 := hlt k e; omega
      clear ho6
      dsimp only
      refine hF.out _ _ (hS2.since hb) (fun _ => ?_)
      clear hF F
      refine wpAnyH_ready (rs := [4, 8]) (by kernel_rfl) (by simp) ?_
      refine AllReadyH.cons (o := Oper.mk (some 82) _ _ _ _ _) rfl (fun F hF => ?_) (AllReadyH.cons (o := Oper.mk (some 86) _ _ _ _ _) rfl (fun F hF => ?_) AllReadyH.nil)
      · rw [if_pos (by rfl)]
        obtain ⟨v8, wc, hrun, hq8, hg8, hat8⟩ := append_own wa w2.heap.size 29 _ ([u1 132]) ho A6 (octs 4 n) c6' hs6 (by simp [octs_len]) hb.size
        rw [hso.out] at hrun
        refine Lib.wp_append_run wa _ _ _ _ rfl _ _ rfl rfl v8 wc hrun ?_
        have hb := ho.grew hb (Nat.le_refl _) hb.size hg8
        clear hg8 hat8 hrun ho
        have ho := hq8
        clear hq8
        simp only [Act.put, List.setIfInBounds_toArray, List.set_cons_zero, List.set_cons_succ]
        refine hF.out _ _ (hS2.since hb) (fun _ => ?_)
        clear hF F
        refine wpAnyH_ready (rs := [8]) (by kernel_rfl) (by simp) ?_
        refine AllReadyH.cons (o := Oper.mk (some 86) _ _ _ _ _) rfl (fun F hF => ?_) AllReadyH.nil
        go_simp
        have hl := lit_one wc code (by omega)
        have hne : ∀ k, v8.ownBlock = some k → k < wc.heap.size := fun k e => (ho.lt e).2
        have ho := ho.alloc (.cells #[.int .u8 code] 5)
        have hb := hb.alloc hb.size (.cells #[.int .u8 code] 5)
        have hs6 := hs6.alloc (.cells #[.int .u8 code] 5)
        obtain ⟨j, hj⟩ : ∃ j, wc.heap.size = j := ⟨_, rfl⟩
        rw [hj] at hl hne
        rw [hj]
        refine hF.out _ _ (hS2.since hb) (fun _ => ?_)
        clear hF F hj
        generalize wc.alloc (.cells #[.int .u8 code] 5) = wcx at hb ho hl hs6 ⊢
        refine wpAnyH_ready (rs := [9]) (by kernel_rfl) (by simp) ?_
        refine AllReadyH.cons (o := Oper.mk (some 87) _ _ _ _ _) rfl (fun F hF => ?_) AllReadyH.nil
        rw [if_pos (by rfl)]
        obtain ⟨v9, wd, hrun, hq8, hg8, hat8⟩ := append_own wcx w2.heap.size 29 _ ([u1 132] ++ (octs 4 n)) ho (some ⟨j, 0, none⟩) [u1 code] 1 hl.seen (by simp [octs_len]) hb.size
        simp only [List.length_singleton] at hrun
        refine Lib.wp_append_run wcx _ _ _ _ rfl _ _ rfl rfl v9 wd hrun ?_
        have hb := ho.grew hb (Nat.le_refl _) hb.size hg8
        clear hg8 hat8 hrun ho
        have ho := hq8
        clear hq8
        simp only [Act.put, List.setIfInBounds_toArray, List.set_cons_zero, List.set_cons_succ]
        refine hF.out _ _ (hS2.since hb) (fun _ => ?_)
        clear hF F
        refine wpAnyH_take (i := 10) (oi := Oper.mk (some 2) _ _ _ _ _) (v := ?_) rfl (by kernel_rfl) (by kernel_rfl) (by kernel_rfl) (fun _ _ _ h => h) (Or.inl ⟨by rfl, ?_⟩) (hS2.since hb) ?_
        rotate_left
        · intro w hSw
          go_simp
          try with_reducible rfl
        simp only [Act.put, List.setIfInBounds_toArray, List.set_cons_zero, List.set_cons_succ]
        try dsimp only
        refine wpAnyH_take (i := 11) (oi := Oper.mk (some 3) _ _ _ _ _) (v := ?_) rfl (by kernel_rfl) (by kernel_rfl) (by kernel_rfl) (fun _ _ _ h => h) (Or.inl ⟨by rfl, ?_⟩) (hS2.since hb) ?_
        rotate_left
        · intro w hSw
          go_simp
          try with_reducible rfl
        simp only [Act.put, List.setIfInBounds_toArray, List.set_cons_zero, List.set_cons_succ]
        try dsimp only
        refine wpAnyH_done (by kernel_rfl) ?_ _
        have hw7 := hS2.2.trans (hb.mono hS2.2.size)
        have hz := hS2.2.size
        clear hS2 hb
        go_wp2
        go_ret2
        exact ⟨v9, rfl, by have h := ho.mono hz; simpa [replyB, List.append_assoc] using h, hw7⟩
      · go_simp
        have hl := lit_one wa code (by omega)
        have hne : ∀ k, v5.ownBlock = some k → k < wa.heap.size := fun k e => (ho.lt e).2
        have ho := ho.alloc (.cells #[.int .u8 code] 5)
        have hb := hb.alloc hb.size (.cells #[.int .u8 code] 5)
        have hs6 := hs6.alloc (.cells #[.int .u8 code] 5)
        obtain ⟨j, hj⟩ : ∃ j, wa.heap.size = j := ⟨_, rfl⟩
        rw [hj] at hl hne
        rw [hj]
        refine hF.out _ _ (hS2.since hb) (fun _ => ?_)
        clear hF F hj
        generalize wa.alloc (.cells #[.int .u8 code] 5) = wax at hb ho hl hs6 ⊢
        refine wpAnyH_ready (rs := [4]) (by kernel_rfl) (by simp) ?_
        refine AllReadyH.cons (o := Oper.mk (some 82) _ _ _ _ _) rfl (fun F hF => ?_) AllReadyH.nil
        rw [if_pos (by rfl)]
        obtain ⟨v8, wc, hrun, hq8, hg8, hat8⟩ := append_own wax w2.heap.size 29 _ ([u1 132]) ho A6 (octs 4 n) c6' hs6 (by simp [octs_len]) hb.size
        rw [hso.out] at hrun
        refine Lib.wp_append_run wax _ _ _ _ rfl _ _ rfl rfl v8 wc hrun ?_
        have hl := hl.grown hg8 fun e => by have := hne _ e.symm; omega
        have hb := ho.grew hb (Nat.le_refl _) hb.size hg8
        clear hg8 hat8 hrun ho
        have ho := hq8
        clear hq8
        simp only [Act.put, List.setIfInBounds_toArray, List.set_cons_zero, List.set_cons_succ]
        refine hF.out _ _ (hS2.since hb) (fun _ => ?_)
        clear hF F
        refine wpAnyH_ready (rs := [9]) (by kernel_rfl) (by simp) ?_
        refine AllReadyH.cons (o := Oper.mk (some 87) _ _ _ _ _) rfl (fun F hF => ?_) AllReadyH.nil
        rw [if_pos (by rfl)]
        obtain ⟨v9, wd, hrun, hq8, hg8, hat8⟩ := append_own wc w2.heap.size 29 _ ([u1 132] ++ (octs 4 n)) ho (some ⟨j, 0, none⟩) [u1 code] 1 hl.seen (by simp [octs_len]) hb.size
        simp only [List.length_singleton] at hrun
        refine Lib.wp_append_run wc _ _ _ _ rfl _ _ rfl rfl v9 wd hrun ?_
        have hb := ho.grew hb (Nat.le_refl _) hb.size hg8
        clear hg8 hat8 hrun ho
        have ho := hq8
        clear hq8
        simp only [Act.put, List.setIfInBounds_toArray, List.set_cons_zero, List.set_cons_succ]
        refine hF.out _ _ (hS2.since hb) (fun _ => ?_)
        clear hF F
        refine wpAnyH_take (i := 10) (oi := Oper.mk (some 2) _ _ _ _ _) (v := ?_) rfl (by kernel_rfl) (by kernel_rfl) (by kernel_rfl) (fun _ _ _ h => h) (Or.inl ⟨by rfl, ?_⟩) (hS2.since hb) ?_
        rotate_left
        · intro w hSw
          go_simp
          try with_reducible rfl
        simp only [Act.put, List.setIfInBounds_toArray, List.set_cons_zero, List.set_cons_succ]
        try dsimp only
        refine wpAnyH_take (i := 11) (oi := Oper.mk (some 3) _ _ _ _ _) (v := ?_) rfl (by kernel_rfl) (by kernel_rfl) (by kernel_rfl) (fun _ _ _ h => h) (Or.inl ⟨by rfl, ?_⟩) (hS2.since hb) ?_
        rotate_left
        · intro w hSw
          go_simp
          try with_reducible rfl
        simp only [Act.put, List.setIfInBounds_toArray, List.set_cons_zero, List.set_cons_succ]
        try dsimp only
        refine wpAnyH_done (by kernel_rfl) ?_ _
        have hw7 := hS2.2.trans (hb.mono hS2.2.size)
        have hz := hS2.2.size
        clear hS2 hb
        go_wp2
        go_ret2
        exact ⟨v9, rfl, by have h := ho.mono hz; simpa [replyB, List.append_assoc] using h, hw7⟩
    · go_simp
      have hl := lit_one W code (by omega)
      have hne : ∀ k, v5.ownBlock = some k → k < W.heap.size := fun k e => (ho.lt e).2
      have ho := ho.alloc (.cells #[.int .u8 code] 5)
      have hb := hb.alloc hb.size (.cells #[.int .u8 code] 5)
      obtain ⟨j, hj⟩ : ∃ j, W.heap.size = j := ⟨_, rfl⟩
      rw [hj] at hl hne
      rw [hj]
      refine hF.out _ _ (hS2.since hb) (fun _ => ?_)
      clear hF F hj
      generalize W.alloc (.cells #[.int .u8 code] 5) = Wx at hb ho hl ⊢
      refine wpAnyH_ready (rs := [3]) (by kernel_rfl) (by simp) ?_
      refine AllReadyH.cons (o := Oper.mk (some 81) _ _ _ _ _) rfl (fun F hF => ?_) AllReadyH.nil
      have hlt : ∀ k, v5.ownBlock = some k → k < Wx.heap.size := fun k e => (ho.lt e).2
      go_simp
      refine (rput_ok (n : Int) 4 n 4 _ rfl rfl (by decide) (by omega) (by omega)).mono ?_
      rintro e wa ⟨v6, rfl, ho6, hb6⟩
      have ho := ho.since hb6
      have hb := hb.trans (hb6.mono hb.size)
      have hl := hl.since hb6
      obtain ⟨A6, c6', rfl, hs6⟩ := ho6.seen_at hso.out
      have hn6 : ∀ k, v5.ownBlock = some k → ∀ a, A6 = some a → k ≠ a.block := fun k e a ha => by subst ha; have h1 := (ho6.lt (g := a.block) rfl).1; have h2 := hlt k e; omega
      clear ho6
      dsimp only
      refine hF.out _ _ (hS2.since hb) (fun _ => ?_)
      clear hF F
      refine wpAnyH_ready (rs := [4]) (by kernel_rfl) (by simp) ?_
      refine AllReadyH.cons (o := Oper.mk (some 82) _ _ _ _ _) rfl (fun F hF => ?_) AllReadyH.nil
      rw [if_pos (by rfl)]
      obtain ⟨v8, wc, hrun, hq8, hg8, hat8⟩ := append_own wa w2.heap.size 29 _ ([u1 132]) ho A6 (octs 4 n) c6' hs6 (by simp [octs_len]) hb.size
      rw [hso.out] at hrun
      refine Lib.wp_append_run wa _ _ _ _ rfl _ _ rfl rfl v8 wc hrun ?_
      have hl := hl.grown hg8 fun e => by have := hne _ e.symm; omega
      have hb := ho.grew hb (Nat.le_refl _) hb.size hg8
      clear hg8 hat8 hrun ho
      have ho := hq8
      clear hq8
      simp only [Act.put, List.setIfInBounds_toArray, List.set_cons_zero, List.set_cons_succ]
      refine hF.out _ _ (hS2.since hb) (fun _ => ?_)
      clear hF F
      refine wpAnyH_ready (rs := [9]) (by kernel_rfl) (by simp) ?_
      refine AllReadyH.cons (o := Oper.mk (some 87) _ _ _ _ _) rfl (fun F hF => ?_) AllReadyH.nil
      rw [if_pos (by rfl)]
      obtain ⟨v9, wd, hrun, hq8, hg8, hat8⟩ := append_own wc w2.heap.size 29 _ ([u1 132] ++ (octs 4 n)) ho (some ⟨j, 0, none⟩) [u1 code] 1 hl.seen (by simp [octs_len]) hb.size
      simp only [List.length_singleton] at hrun
      refine Lib.wp_append_run wc _ _ _ _ rfl _ _ rfl rfl v9 wd hrun ?_
      have hb := ho.grew hb (Nat.le_refl _) hb.size hg8
      clear hg8 hat8 hrun ho
      have ho := hq8
      clear hq8
      simp only [Act.put, List.setIfInBounds_toArray, List.set_cons_zero, List.set_cons_succ]
      refine hF.out _ _ (hS2.since hb) (fun _ => ?_)
      clear hF F
      refine wpAnyH_take (i := 10) (oi := Oper.mk (some 2) _ _ _ _ _) (v := ?_) rfl (by kernel_rfl) (by kernel_rfl) (by kernel_rfl) (fun _ _ _ h => h) (Or.inl ⟨by rfl, ?_⟩) (hS2.since hb) ?_
      rotate_left
      · intro w hSw
        go_simp
        try with_reducible rfl
      simp only [Act.put, List.setIfInBounds_toArray, List.set_cons_zero, List.set_cons_succ]
      try dsimp only
      refine wpAnyH_take (i := 11) (oi := Oper.mk (some 3) _ _ _ _ _) (v := ?_) rfl (by kernel_rfl) (by kernel_rfl) (by kernel_rfl) (fun _ _ _ h => h) (Or.inl ⟨by rfl, ?_⟩) (hS2.since hb) ?_
      rotate_left
      · intro w hSw
        go_simp
        try with_reducible rfl
      simp only [Act.put, List.setIfInBounds_toArray, List.set_cons_zero, List.set_cons_succ]
      try dsimp only
      refine wpAnyH_done (by kernel_rfl) ?_ _
      have hw7 := hS2.2.trans (hb.mono hS2.2.size)
      have hz := hS2.2.size
      clear hS2 hb
      go_wp2
      go_ret2
      exact ⟨v9, rfl, by have h := ho.mono hz; simpa [replyB, List.append_assoc] using h, hw7⟩
set_option maxRecDepth 100000 in
set_option maxHeartbeats 4000000 in
theorem refPutR_130 (r : R) (w : World) (h8 : r.nonce.length = 8) (h : okR r = true) (hkd : r.kind = 130) : Calls Try.prog 16 #[.agg (rv r).toArray] w fun e w' => ∃ v, e = .returned (.tuple #[v, .int .i64 0]) ∧ Own w' w.heap.size v (replyB r) ∧ Below w.heap.size w w' := by
  have hA := Arr.new w (rv r) 28
  have hw := below_new w (.cells (rv r).toArray 28)
  have hS0 : Ry w w.heap.size r (w.alloc (.cells (rv r).toArray 28)) := ⟨hA, hw⟩
  obtain ⟨c0, c1, c2, c3, c4, c5⟩ := rv_cells hA
  have hnm := fun W => replies_ok r h8 W
  have hq := fun W => neq_reply (namedR r) r (namedR_eight r h8) h8 W
  have hrl := rv_len r h8
  obtain ⟨dd, d1, d2, d3⟩ := rowB_spec (P := Try.prog) (ty := 28) (n := 14) (by kernel_rfl)
  replace d1 := Lib.hid d1
  replace d3 := Lib.hid d3
  replace hrl := Lib.hid hrl
  obtain ⟨bk, hbk⟩ : ∃ b, inI r.kind 129 136 = b := ⟨_, rfl⟩
  obtain ⟨bs, hbs⟩ : ∃ b, inI r.seq 0 4294967295 = b := ⟨_, rfl⟩
  obtain ⟨br, hbr⟩ : ∃ b, inI r.role 0 3 = b := ⟨_, rfl⟩
  obtain ⟨bw, hbw⟩ : ∃ b, inI r.who 0 4 = b := ⟨_, rfl⟩
  obtain ⟨be, hbe⟩ : ∃ b, inI r.epoch 0 65535 = b := ⟨_, rfl⟩
  obtain ⟨bc, hbc⟩ : ∃ b, inI r.code 0 255 = b := ⟨_, rfl⟩
  obtain ⟨hnd, hkk, hse, hro, hwh, hep, hco⟩ := okR_parts h
  have hall : bk = true ∧ bs = true ∧ br = true ∧ bw = true ∧ be = true ∧ bc = true := by
    unfold okR fitsR at h
    rw [hbk, hbs, hbr, hbw, hbe, hbc] at h
    simp only [Bool.and_eq_true] at h
    exact ⟨h.1.1.1.1.1.1, h.1.1.1.1.1.2, h.1.1.1.1.2, h.1.1.1.2, h.1.1.2, h.1.2⟩
  rw [decide_eq_true hnd] at hq
  obtain ⟨rfl, rfl, rfl, rfl, rfl, rfl⟩ := hall
  clear h hnd hkk
  replace hkd := Lib.hid hkd
  replace h8 := Lib.hid h8
  replace hbk := Lib.hid hbk
  replace hbs := Lib.hid hbs
  replace hbr := Lib.hid hbr
  replace hbw := Lib.hid hbw
  replace hbe := Lib.hid hbe
  replace hbc := Lib.hid hbc
  clear hA hw
  go_enter Try.func16, Try.ntmps16
  try dsimp only [List.append]
  go_wp2_with fail
  refine (in_ok _ _ _ true _ hbk.out).mono ?_
  rintro e w' ⟨rfl, rfl⟩
  go_wp2_with fail
  refine (in_ok _ _ _ true _ hbs.out).mono ?_
  rintro e w' ⟨rfl, rfl⟩
  go_wp2_with fail
  refine (in_ok _ _ _ true _ hbr.out).mono ?_
  rintro e w' ⟨rfl, rfl⟩
  go_wp2_with fail
  refine (in_ok _ _ _ true _ hbw.out).mono ?_
  rintro e w' ⟨rfl, rfl⟩
  go_wp2_with fail
  refine (in_ok _ _ _ true _ hbe.out).mono ?_
  rintro e w' ⟨rfl, rfl⟩
  go_wp2_with fail
  refine (in_ok _ _ _ true _ hbc.out).mono ?_
  rintro e w' ⟨rfl, rfl⟩
  clear c0 c1 c2 c3 c4 c5
  generalize w.alloc (.cells (rv r).toArray 28) = w1 at hS0 ⊢
  obtain ⟨g, hgl⟩ : ∃ g, g = w.heap.size := ⟨_, rfl⟩
  rw [← hgl] at hS0
  simp only [← hgl]
  replace hgl := Lib.hid hgl
  have hD : Ry w g r w1.drew := hS0.since (Below.drew (Below.refl _ _))
  go_wp2_with fail
  refine wp_region_held_drew (S := Ry w g r) (by kernel_rfl) hD (fun _ => ?_)
  refine wpAnyH_take (i := 0) (oi := Oper.mk (some 34) _ _ _ _ _) (v := ?_) rfl (by kernel_rfl) (by kernel_rfl) (by kernel_rfl) (fun _ _ _ h => h) (Or.inl ⟨by rfl, ?_⟩) hD ?_
  rotate_left
  · intro w hSw
    go_simp
    try with_reducible rfl
  simp only [Act.put, List.setIfInBounds_toArray, List.set_cons_zero, List.set_cons_succ]
  try dsimp only
  refine wpAnyH_take (i := 1) (oi := Oper.mk (some 35) _ _ _ _ _) (v := ?_) rfl (by kernel_rfl) (by kernel_rfl) (by kernel_rfl) (fun _ _ _ h => h) (Or.inl ⟨by rfl, ?_⟩) hD ?_
  rotate_left
  · intro w hSw
    go_simp
    try with_reducible rfl
  simp only [Act.put, List.setIfInBounds_toArray, List.set_cons_zero, List.set_cons_succ]
  try dsimp only
  refine wpAnyH_take (i := 2) (oi := Oper.mk (some 36) _ _ _ _ _) (v := ?_) rfl (by kernel_rfl) (by kernel_rfl) (by kernel_rfl) (fun _ _ _ h => h) (Or.inl ⟨by rfl, ?_⟩) hD ?_
  rotate_left
  · intro w hSw
    go_simp
    try with_reducible rfl
  simp only [Act.put, List.setIfInBounds_toArray, List.set_cons_zero, List.set_cons_succ]
  try dsimp only
  refine wpAnyH_take (i := 3) (oi := Oper.mk (some 37) _ _ _ _ _) (v := .agg (rv r).toArray) rfl (by kernel_rfl) (by kernel_rfl) (by kernel_rfl) (fun _ _ _ h => h) (yieldsIf_load_mid rfl _ _ rfl g 0 rfl (rv r) dd (fun w h => h.1.range) d1.out d2 (by rw [d3.out, hrl.out])) hD ?_
  simp only [Act.put, List.setIfInBounds_toArray, List.set_cons_zero, List.set_cons_succ]
  try dsimp only
  refine wpAnyH_take (i := 5) (oi := Oper.mk (some 39) _ _ _ _ _) (v := .agg (rv r).toArray) rfl (by kernel_rfl) (by kernel_rfl) (by kernel_rfl) (fun _ _ _ h => h) (yieldsIf_load_mid rfl _ _ rfl g 0 rfl (rv r) dd (fun w h => h.1.range) d1.out d2 (by rw [d3.out, hrl.out])) hD ?_
  simp only [Act.put, List.setIfInBounds_toArray, List.set_cons_zero, List.set_cons_succ]
  try dsimp only
  refine wpAnyH_ready (rs := [4]) (by kernel_rfl) (by simp) ?_
  refine AllReadyH.cons rfl (fun K hK => ?_) AllReadyH.nil
  go_simp
  refine (hnm _).mono ?_
  rintro e w2 ⟨rfl, hb2⟩
  have hS2 := hD.since hb2
  clear hb2
  dsimp only
  refine hK.out _ _ hS2 (fun _ => ?_)
  clear hK K
  refine wpAnyH_take (i := 6) (oi := Oper.mk (some 40) _ _ _ _ _) (v := ?_) rfl (by kernel_rfl) (by kernel_rfl) (by kernel_rfl) (fun _ _ _ h => h) (Or.inl ⟨by rfl, ?_⟩) hS2 ?_
  rotate_left
  · intro w hSw
    go_simp
    try with_reducible rfl
  simp only [Act.put, List.setIfInBounds_toArray, List.set_cons_zero, List.set_cons_succ]
  try dsimp only
  refine wpAnyH_take (i := 7) (oi := Oper.mk (some 41) _ _ _ _ _) (v := ?_) rfl (by kernel_rfl) (by kernel_rfl) (by kernel_rfl) (fun _ _ _ h => h) (Or.inl ⟨by rfl, ?_⟩) hS2 ?_
  rotate_left
  · intro w hSw
    go_simp
    try with_reducible rfl
  simp only [Act.put, List.setIfInBounds_toArray, List.set_cons_zero, List.set_cons_succ]
  try dsimp only
  refine wpAnyH_done (by kernel_rfl) ?_ _
  replace hkd := hkd.out
  replace h8 := h8.out
  obtain ⟨kind, seq, role, who, epoch, code, nonce⟩ := r
  simp only at hkd hse hro hwh hep hco h8
  clear hD hq hnm
  obtain rfl := hkd
  · -- kind 130
    have ho := (lit_one w2 130 (by decide)).own (base := w2.heap.size) (Nat.le_refl _)
    have hb := below_new w2 (.cells #[.int .u8 130] 5)
    have d0 := (rv_cells hS2.1).1
    obtain ⟨c0, c1, c2, c3, c4, c5⟩ := rv_cells (hS2.since hb).1
    have hD : Ry w g _ (w2.alloc (.cells #[.int .u8 130] 5)).drew := (hS2.since hb).since (Below.drew (Below.refl _ _))
    have hb := hb.drew
    have hoD : Own (w2.alloc (.cells #[.int .u8 130] 5)).drew w2.heap.size (.slice (some ⟨w2.heap.size, 0, none⟩) 1 1) [u1 130] := ho
    clear ho
    have ho := hoD
    clear hoD
    obtain ⟨n, rfl⟩ : ∃ n : Nat, epoch = n := ⟨epoch.toNat, by omega⟩
    have hso := octs_len 2 n
    replace hso := Lib.hid hso
    go_wp2_with fail
    refine wp_region_held_drew (S := Ry w g _) (by kernel_rfl) hD (fun _ => ?_)
    refine wpAnyH_take (i := 0) (oi := Oper.mk (some 56) _ _ _ _ _) (v := ?_) rfl (by kernel_rfl) (by kernel_rfl) (by kernel_rfl) (fun _ _ _ h => h) (Or.inl ⟨by rfl, ?_⟩) hD ?_
    rotate_left
    · intro w hSw
      go_simp
      try with_reducible rfl
    simp only [Act.put, List.setIfInBounds_toArray, List.set_cons_zero, List.set_cons_succ]
    try dsimp only
    refine wpAnyH_take (i := 1) (oi := Oper.mk (some 57) _ _ _ _ _) (v := ?_) rfl (by kernel_rfl) (by kernel_rfl) (by kernel_rfl) (fun _ _ _ h => h) (Or.inl ⟨by rfl, ?_⟩) hD ?_
    rotate_left
    · intro w hSw
      go_simp
      try with_reducible rfl
    simp only [Act.put, List.setIfInBounds_toArray, List.set_cons_zero, List.set_cons_succ]
    try dsimp only
    refine wpAnyH_take (i := 2) (oi := Oper.mk (some 58) _ _ _ _ _) (v := ?_) rfl (by kernel_rfl) (by kernel_rfl) (by kernel_rfl) (fun _ _ _ h => h) (Or.inl ⟨by rfl, ?_⟩) hD ?_
    rotate_left
    · intro w hSw
      obtain ⟨c0, c1, c2, c3, c4, c5⟩ := rv_cells hSw.1
      go_simp
      try with_reducible rfl
    simp only [Act.put, List.setIfInBounds_toArray, List.set_cons_zero, List.set_cons_succ]
    try dsimp only
    refine wpAnyH_take (i := 3) (oi := Oper.mk (some 59) _ _ _ _ _) (v := ?_) rfl (by kernel_rfl) (by kernel_rfl) (by kernel_rfl) (fun _ _ _ h => h) (Or.inl ⟨by rfl, ?_⟩) hD ?_
    rotate_left
    · intro w hSw
      go_simp
      try with_reducible rfl
    simp only [Act.put, List.setIfInBounds_toArray, List.set_cons_zero, List.set_cons_succ]
    try dsimp only
    refine wpAnyH_take (i := 4) (oi := Oper.mk (some 60) _ _ _ _ _) (v := ?_) rfl (by kernel_rfl) (by kernel_rfl) (by kernel_rfl) (fun _ _ _ h => h) (Or.inl ⟨by rfl, ?_⟩) hD ?_
    rotate_left
    · intro w hSw
      go_simp
      try with_reducible rfl
    simp only [Act.put, List.setIfInBounds_toArray, List.set_cons_zero, List.set_cons_succ]
    try dsimp only
    refine wpAnyH_take (i := 5) (oi := Oper.mk (some 61) _ _ _ _ _) (v := ?_) rfl (by kernel_rfl) (by kernel_rfl) (by kernel_rfl) (fun _ _ _ h => h) (Or.inl ⟨by rfl, ?_⟩) hD ?_
    rotate_left
    · intro w hSw
      obtain ⟨c0, c1, c2, c3, c4, c5⟩ := rv_cells hSw.1
      go_simp
      try with_reducible rfl
    simp only [Act.put, List.setIfInBounds_toArray, List.set_cons_zero, List.set_cons_succ]
    try dsimp only
    refine wpAnyH_take (i := 6) (oi := Oper.mk (some 62) _ _ _ _ _) (v := ?_) rfl (by kernel_rfl) (by kernel_rfl) (by kernel_rfl) (fun _ _ _ h => h) (Or.inl ⟨by rfl, ?_⟩) hD ?_
    rotate_left
    · intro w hSw
      go_simp
      try with_reducible rfl
    simp only [Act.put, List.setIfInBounds_toArray, List.set_cons_zero, List.set_cons_succ]
    try dsimp only
    refine wpAnyH_take (i := 9) (oi := Oper.mk (some 65) _ _ _ _ _) (v := ?_) rfl (by kernel_rfl) (by kernel_rfl) (by kernel_rfl) (fun _ _ _ h => h) (Or.inl ⟨by rfl, ?_⟩) hD ?_
    rotate_left
    · intro w hSw
      go_simp
      try with_reducible rfl
    simp only [Act.put, List.setIfInBounds_toArray, List.set_cons_zero, List.set_cons_succ]
    try dsimp only
    refine wpAnyH_take (i := 10) (oi := Oper.mk (some 66) _ _ _ _ _) (v := ?_) rfl (by kernel_rfl) (by kernel_rfl) (by kernel_rfl) (fun _ _ _ h => h) (Or.inl ⟨by rfl, ?_⟩) hD ?_
    rotate_left
    · intro w hSw
      obtain ⟨c0, c1, c2, c3, c4, c5⟩ := rv_cells hSw.1
      go_simp
      try with_reducible rfl
    simp only [Act.put, List.setIfInBounds_toArray, List.set_cons_zero, List.set_cons_succ]
    try dsimp only
    have ewrole : IntKind.u8.wrap role = role := by rw [IntKind.wrap_u8]; omega
    have ewwho : IntKind.u8.wrap who = who := by rw [IntKind.wrap_u8]; omega
    simp only [ewrole, ewwho]
    clear hD d0 c0 c1 c2 c3 c4 c5 ewrole ewwho
    generalize (w2.alloc (.cells #[.int .u8 130] 5)).drew = W at hb ho ⊢
    generalize (Value.slice (some ⟨w2.heap.size, 0, none⟩) 1 1) = v5 at ho ⊢
    refine wpAnyH_ready (rs := [7]) (by kernel_rfl) (by simp) ?_
    refine AllReadyH.cons (o := Oper.mk (some 63) _ _ _ _ _) rfl (fun F hF => ?_) AllReadyH.nil
    go_simp
    have hl := lit_two W role who (by omega) (by omega)
    have hne : ∀ k, v5.ownBlock = some k → k < W.heap.size := fun k e => (ho.lt e).2
    have ho := ho.alloc (.cells #[.int .u8 role, .int .u8 who] 5)
    have hb := hb.alloc hb.size (.cells #[.int .u8 role, .int .u8 who] 5)
    obtain ⟨j, hj⟩ : ∃ j, W.heap.size = j := ⟨_, rfl⟩
    rw [hj] at hl hne
    rw [hj]
    refine hF.out _ _ (hS2.since hb) (fun _ => ?_)
    clear hF F hj
    generalize W.alloc (.cells #[.int .u8 role, .int .u8 who] 5) = Wx at hb ho hl ⊢
    refine wpAnyH_ready (rs := [8]) (by kernel_rfl) (by simp) ?_
    refine AllReadyH.cons (o := Oper.mk (some 64) _ _ _ _ _) rfl (fun F hF => ?_) AllReadyH.nil
    rw [if_pos (by rfl)]
    obtain ⟨v8, wc, hrun, hq8, hg8, hat8⟩ := append_own Wx w2.heap.size 29 _ ([u1 130]) ho (some ⟨j, 0, none⟩) [u1 role, u1 who] 2 hl.seen (by simp [octs_len]) hb.size
    simp only [List.length_cons, List.length_nil] at hrun
    refine Lib.wp_append_run Wx _ _ _ _ rfl _ _ rfl rfl v8 wc hrun ?_
    have hb := ho.grew hb (Nat.le_refl _) hb.size hg8
    clear hg8 hat8 hrun ho
    have ho := hq8
    clear hq8
    simp only [Act.put, List.setIfInBounds_toArray, List.set_cons_zero, List.set_cons_succ]
    refine hF.out _ _ (hS2.since hb) (fun _ => ?_)
    clear hF F
    refine wpAnyH_ready (rs := [11]) (by kernel_rfl) (by simp) ?_
    refine AllReadyH.cons (o := Oper.mk (some 67) _ _ _ _ _) rfl (fun F hF => ?_) AllReadyH.nil
    have hlt : ∀ k, v8.ownBlock = some k → k < wc.heap.size := fun k e => (ho.lt e).2
    go_simp
    refine (rput_ok (n : Int) 2 n 2 _ rfl rfl (by decide) (by omega) (by omega)).mono ?_
    rintro e wa ⟨v6, rfl, ho6, hb6⟩
    have ho := ho.since hb6
    have hb := hb.trans (hb6.mono hb.size)
    obtain ⟨A6, c6', rfl, hs6⟩ := ho6.seen_at hso.out
    have hn6 : ∀ k, v8.ownBlock = some k → ∀ a, A6 = some a → k ≠ a.block := fun k e a ha => by subst ha; have h1 := (ho6.lt (g := a.block) rfl).1; have h2 := hlt k e; omega
    clear ho6
    dsimp only
    refine hF.out _ _ (hS2.since hb) (fun _ => ?_)
    clear hF F
    refine wpAnyH_ready (rs := [12]) (by kernel_rfl) (by simp) ?_
    refine AllReadyH.cons (o := Oper.mk (some 68) _ _ _ _ _) rfl (fun F hF => ?_) AllReadyH.nil
    rw [if_pos (by rfl)]
    obtain ⟨v9, wd, hrun, hq8, hg8, hat8⟩ := append_own wa w2.heap.size 29 _ ([u1 130] ++ [u1 role, u1 who]) ho A6 (octs 2 n) c6' hs6 (by simp [octs_len]) hb.size
    rw [hso.out] at hrun
    refine Lib.wp_append_run wa _ _ _ _ rfl _ _ rfl rfl v9 wd hrun ?_
    have hb := ho.grew hb (Nat.le_refl _) hb.size hg8
    clear hg8 hat8 hrun ho
    have ho := hq8
    clear hq8
    simp only [Act.put, List.setIfInBounds_toArray, List.set_cons_zero, List.set_cons_succ]
    refine hF.out _ _ (hS2.since hb) (fun _ => ?_)
    clear hF F
    refine wpAnyH_take (i := 13) (oi := Oper.mk (some 2) _ _ _ _ _) (v := ?_) rfl (by kernel_rfl) (by kernel_rfl) (by kernel_rfl) (fun _ _ _ h => h) (Or.inl ⟨by rfl, ?_⟩) (hS2.since hb) ?_
    rotate_left
    · intro w hSw
      go_simp
      try with_reducible rfl
    simp only [Act.put, List.setIfInBounds_toArray, List.set_cons_zero, List.set_cons_succ]
    try dsimp only
    refine wpAnyH_take (i := 14) (oi := Oper.mk (some 3) _ _ _ _ _) (v := ?_) rfl (by kernel_rfl) (by kernel_rfl) (by kernel_rfl) (fun _ _ _ h => h) (Or.inl ⟨by rfl, ?_⟩) (hS2.since hb) ?_
    rotate_left
    · intro w hSw
      go_simp
      try with_reducible rfl
    simp only [Act.put, List.setIfInBounds_toArray, List.set_cons_zero, List.set_cons_succ]
    try dsimp only
    refine wpAnyH_done (by kernel_rfl) ?_ _
    have hw7 := hS2.2.trans (hb.mono hS2.2.size)
    have hz := hS2.2.size
    clear hS2 hb
    go_wp2
    go_ret2
    exact ⟨v9, rfl, by have h := ho.mono hz; simpa [replyB, List.append_assoc] using h, hw7⟩
set_option maxRecDepth 100000 in
set_option maxHeartbeats 4000000 in
theorem refPutR_134 (r : R) (w : World) (h8 : r.nonce.length = 8) (h : okR r = true) (hkd : r.kind = 134) : Calls Try.prog 16 #[.agg (rv r).toArray] w fun e w' => ∃ v, e = .returned (.tuple #[v, .int .i64 0]) ∧ Own w' w.heap.size v (replyB r) ∧ Below w.heap.size w w' := by
  have hA := Arr.new w (rv r) 28
  have hw := below_new w (.cells (rv r).toArray 28)
  have hS0 : Ry w w.heap.size r (w.alloc (.cells (rv r).toArray 28)) := ⟨hA, hw⟩
  obtain ⟨c0, c1, c2, c3, c4, c5⟩ := rv_cells hA
  have hnm := fun W => replies_ok r h8 W
  have hq := fun W => neq_reply (namedR r) r (namedR_eight r h8) h8 W
  have hrl := rv_len r h8
  obtain ⟨dd, d1, d2, d3⟩ := rowB_spec (P := Try.prog) (ty := 28) (n := 14) (by kernel_rfl)
  replace d1 := Lib.hid d1
  replace d3 := Lib.hid d3
  replace hrl := Lib.hid hrl
  obtain ⟨bk, hbk⟩ : ∃ b, inI r.kind 129 136 = b := ⟨_, rfl⟩
  obtain ⟨bs, hbs⟩ : ∃ b, inI r.seq 0 4294967295 = b := ⟨_, rfl⟩
  obtain ⟨br, hbr⟩ : ∃ b, inI r.role 0 3 = b := ⟨_, rfl⟩
  obtain ⟨bw, hbw⟩ : ∃ b, inI r.who 0 4 = b := ⟨_, rfl⟩
  obtain ⟨be, hbe⟩ : ∃ b, inI r.epoch 0 65535 = b := ⟨_, rfl⟩
  obtain ⟨bc, hbc⟩ : ∃ b, inI r.code 0 255 = b := ⟨_, rfl⟩
  obtain ⟨hnd, hkk, hse, hro, hwh, hep, hco⟩ := okR_parts h
  have hall : bk = true ∧ bs = true ∧ br = true ∧ bw = true ∧ be = true ∧ bc = true := by
    unfold okR fitsR at h
    rw [hbk, hbs, hbr, hbw, hbe, hbc] at h
    simp only [Bool.and_eq_true] at h
    exact ⟨h.1.1.1.1.1.1, h.1.1.1.1.1.2, h.1.1.1.1.2, h.1.1.1.2, h.1.1.2, h.1.2⟩
  rw [decide_eq_true hnd] at hq
  obtain ⟨rfl, rfl, rfl, rfl, rfl, rfl⟩ := hall
  clear h hnd hkk
  replace hkd := Lib.hid hkd
  replace h8 := Lib.hid h8
  replace hbk := Lib.hid hbk
  replace hbs := Lib.hid hbs
  replace hbr := Lib.hid hbr
  replace hbw := Lib.hid hbw
  replace hbe := Lib.hid hbe
  replace hbc := Lib.hid hbc
  clear hA hw
  go_enter Try.func16, Try.ntmps16
  try dsimp only [List.append]
  go_wp2_with fail
  refine (in_ok _ _ _ true _ hbk.out).mono ?_
  rintro e w' ⟨rfl, rfl⟩
  go_wp2_with fail
  refine (in_ok _ _ _ true _ hbs.out).mono ?_
  rintro e w' ⟨rfl, rfl⟩
  go_wp2_with fail
  refine (in_ok _ _ _ true _ hbr.out).mono ?_
  rintro e w' ⟨rfl, rfl⟩
  go_wp2_with fail
  refine (in_ok _ _ _ true _ hbw.out).mono ?_
  rintro e w' ⟨rfl, rfl⟩
  go_wp2_with fail
  refine (in_ok _ _ _ true _ hbe.out).mono ?_
  rintro e w' ⟨rfl, rfl⟩
  go_wp2_with fail
  refine (in_ok _ _ _ true _ hbc.out).mono ?_
  rintro e w' ⟨rfl, rfl⟩
  clear c0 c1 c2 c3 c4 c5
  generalize w.alloc (.cells (rv r).toArray 28) = w1 at hS0 ⊢
  obtain ⟨g, hgl⟩ : ∃ g, g = w.heap.size := ⟨_, rfl⟩
  rw [← hgl] at hS0
  simp only [← hgl]
  replace hgl := Lib.hid hgl
  have hD : Ry w g r w1.drew := hS0.since (Below.drew (Below.refl _ _))
  go_wp2_with fail
  refine wp_region_held_drew (S := Ry w g r) (by kernel_rfl) hD (fun _ => ?_)
  refine wpAnyH_take (i := 0) (oi := Oper.mk (some 34) _ _ _ _ _) (v := ?_) rfl (by kernel_rfl) (by kernel_rfl) (by kernel_rfl) (fun _ _ _ h => h) (Or.inl ⟨by rfl, ?_⟩) hD ?_
  rotate_left
  · intro w hSw
    go_simp
    try with_reducible rfl
  simp only [Act.put, List.setIfInBounds_toArray, List.set_cons_zero, List.set_cons_succ]
  try dsimp only
  refine wpAnyH_take (i := 1) (oi := Oper.mk (some 35) _ _ _ _ _) (v := ?_) rfl (by kernel_rfl) (by kernel_rfl) (by kernel_rfl) (fun _ _ _ h => h) (Or.inl ⟨by rfl, ?_⟩) hD ?_
  rotate_left
  · intro w hSw
    go_simp
    try with_reducible rfl
  simp only [Act.put, List.setIfInBounds_toArray, List.set_cons_zero, List.set_cons_succ]
  try dsimp only
  refine wpAnyH_take (i := 2) (oi := Oper.mk (some 36) _ _ _ _ _) (v := ?_) rfl (by kernel_rfl) (by kernel_rfl) (by kernel_rfl) (fun _ _ _ h => h) (Or.inl ⟨by rfl, ?_⟩) hD ?_
  rotate_left
  · intro w hSw
    go_simp
    try with_reducible rfl
  simp only [Act.put, List.setIfInBounds_toArray, List.set_cons_zero, List.set_cons_succ]
  try dsimp only
  refine wpAnyH_take (i := 3) (oi := Oper.mk (some 37) _ _ _ _ _) (v := .agg (rv r).toArray) rfl (by kernel_rfl) (by kernel_rfl) (by kernel_rfl) (fun _ _ _ h => h) (yieldsIf_load_mid rfl _ _ rfl g 0 rfl (rv r) dd (fun w h => h.1.range) d1.out d2 (by rw [d3.out, hrl.out])) hD ?_
  simp only [Act.put, List.setIfInBounds_toArray, List.set_cons_zero, List.set_cons_succ]
  try dsimp only
  refine wpAnyH_take (i := 5) (oi := Oper.mk (some 39) _ _ _ _ _) (v := .agg (rv r).toArray) rfl (by kernel_rfl) (by kernel_rfl) (by kernel_rfl) (fun _ _ _ h => h) (yieldsIf_load_mid rfl _ _ rfl g 0 rfl (rv r) dd (fun w h => h.1.range) d1.out d2 (by rw [d3.out, hrl.out])) hD ?_
  simp only [Act.put, List.setIfInBounds_toArray, List.set_cons_zero, List.set_cons_succ]
  try dsimp only
  refine wpAnyH_ready (rs := [4]) (by kernel_rfl) (by simp) ?_
  refine AllReadyH.cons rfl (fun K hK => ?_) AllReadyH.nil
  go_simp
  refine (hnm _).mono ?_
  rintro e w2 ⟨rfl, hb2⟩
  have hS2 := hD.since hb2
  clear hb2
  dsimp only
  refine hK.out _ _ hS2 (fun _ => ?_)
  clear hK K
  refine wpAnyH_take (i := 6) (oi := Oper.mk (some 40) _ _ _ _ _) (v := ?_) rfl (by kernel_rfl) (by kernel_rfl) (by kernel_rfl) (fun _ _ _ h => h) (Or.inl ⟨by rfl, ?_⟩) hS2 ?_
  rotate_left
  · intro w hSw
    go_simp
    try with_reducible rfl
  simp only [Act.put, List.setIfInBounds_toArray, List.set_cons_zero, List.set_cons_succ]
  try dsimp only
  refine wpAnyH_take (i := 7) (oi := Oper.mk (some 41) _ _ _ _ _) (v := ?_) rfl (by kernel_rfl) (by kernel_rfl) (by kernel_rfl) (fun _ _ _ h => h) (Or.inl ⟨by rfl, ?_⟩) hS2 ?_
  rotate_left
  · intro w hSw
    go_simp
    try with_reducible rfl
  simp only [Act.put, List.setIfInBounds_toArray, List.set_cons_zero, List.set_cons_succ]
  try dsimp only
  refine wpAnyH_done (by kernel_rfl) ?_ _
  replace hkd := hkd.out
  replace h8 := h8.out
  obtain ⟨kind, seq, role, who, epoch, code, nonce⟩ := r
  simp only at hkd hse hro hwh hep hco h8
  clear hD hq hnm
  obtain rfl := hkd
  · -- kind 134
    have ho := (lit_one w2 134 (by decide)).own (base := w2.heap.size) (Nat.le_refl _)
    have hb := below_new w2 (.cells #[.int .u8 134] 5)
    have d0 := (rv_cells hS2.1).1
    obtain ⟨c0, c1, c2, c3, c4, c5⟩ := rv_cells (hS2.since hb).1
    have hD : Ry w g _ (w2.alloc (.cells #[.int .u8 134] 5)).drew := (hS2.since hb).since (Below.drew (Below.refl _ _))
    have hb := hb.drew
    have hoD : Own (w2.alloc (.cells #[.int .u8 134] 5)).drew w2.heap.size (.slice (some ⟨w2.heap.size, 0, none⟩) 1 1) [u1 134] := ho
    clear ho
    have ho := hoD
    clear hoD
    obtain ⟨n, rfl⟩ : ∃ n : Nat, epoch = n := ⟨epoch.toNat, by omega⟩
    have hso := octs_len 2 n
    replace hso := Lib.hid hso
    go_wp2_with fail
    refine wp_region_held_drew (S := Ry w g _) (by kernel_rfl) hD (fun _ => ?_)
    refine wpAnyH_take (i := 0) (oi := Oper.mk (some 106) _ _ _ _ _) (v := ?_) rfl (by kernel_rfl) (by kernel_rfl) (by kernel_rfl) (fun _ _ _ h => h) (Or.inl ⟨by rfl, ?_⟩) hD ?_
    rotate_left
    · intro w hSw
      go_simp
      try with_reducible rfl
    simp only [Act.put, List.setIfInBounds_toArray, List.set_cons_zero, List.set_cons_succ]
    try dsimp only
    refine wpAnyH_take (i := 1) (oi := Oper.mk (some 107) _ _ _ _ _) (v := ?_) rfl (by kernel_rfl) (by kernel_rfl) (by kernel_rfl) (fun _ _ _ h => h) (Or.inl ⟨by rfl, ?_⟩) hD ?_
    rotate_left
    · intro w hSw
      go_simp
      try with_reducible rfl
    simp only [Act.put, List.setIfInBounds_toArray, List.set_cons_zero, List.set_cons_succ]
    try dsimp only
    refine wpAnyH_take (i := 2) (oi := Oper.mk (some 108) _ _ _ _ _) (v := ?_) rfl (by kernel_rfl) (by kernel_rfl) (by kernel_rfl) (fun _ _ _ h => h) (Or.inl ⟨by rfl, ?_⟩) hD ?_
    rotate_left
    · intro w hSw
      obtain ⟨c0, c1, c2, c3, c4, c5⟩ := rv_cells hSw.1
      go_simp
      try with_reducible rfl
    simp only [Act.put, List.setIfInBounds_toArray, List.set_cons_zero, List.set_cons_succ]
    try dsimp only
    refine wpAnyH_take (i := 3) (oi := Oper.mk (some 109) _ _ _ _ _) (v := ?_) rfl (by kernel_rfl) (by kernel_rfl) (by kernel_rfl) (fun _ _ _ h => h) (Or.inl ⟨by rfl, ?_⟩) hD ?_
    rotate_left
    · intro w hSw
      go_simp
      try with_reducible rfl
    simp only [Act.put, List.setIfInBounds_toArray, List.set_cons_zero, List.set_cons_succ]
    try dsimp only
    refine wpAnyH_take (i := 6) (oi := Oper.mk (some 112) _ _ _ _ _) (v := ?_) rfl (by kernel_rfl) (by kernel_rfl) (by kernel_rfl) (fun _ _ _ h => h) (Or.inl ⟨by rfl, ?_⟩) hD ?_
    rotate_left
    · intro w hSw
      go_simp
      try with_reducible rfl
    simp only [Act.put, List.setIfInBounds_toArray, List.set_cons_zero, List.set_cons_succ]
    try dsimp only
    refine wpAnyH_take (i := 7) (oi := Oper.mk (some 113) _ _ _ _ _) (v := ?_) rfl (by kernel_rfl) (by kernel_rfl) (by kernel_rfl) (fun _ _ _ h => h) (Or.inl ⟨by rfl, ?_⟩) hD ?_
    rotate_left
    · intro w hSw
      obtain ⟨c0, c1, c2, c3, c4, c5⟩ := rv_cells hSw.1
      go_simp
      try with_reducible rfl
    simp only [Act.put, List.setIfInBounds_toArray, List.set_cons_zero, List.set_cons_succ]
    try dsimp only
    have ewwho : IntKind.u8.wrap who = who := by rw [IntKind.wrap_u8]; omega
    simp only [ewwho]
    clear hD d0 c0 c1 c2 c3 c4 c5 ewwho
    generalize (w2.alloc (.cells #[.int .u8 134] 5)).drew = W at hb ho ⊢
    generalize (Value.slice (some ⟨w2.heap.size, 0, none⟩) 1 1) = v5 at ho ⊢
    refine wpAnyH_ready (rs := [4]) (by kernel_rfl) (by simp) ?_
    refine AllReadyH.cons (o := Oper.mk (some 110) _ _ _ _ _) rfl (fun F hF => ?_) AllReadyH.nil
    go_simp
    have hl := lit_one W who (by omega)
    have hne : ∀ k, v5.ownBlock = some k → k < W.heap.size := fun k e => (ho.lt e).2
    have ho := ho.alloc (.cells #[.int .u8 who] 5)
    have hb := hb.alloc hb.size (.cells #[.int .u8 who] 5)
    obtain ⟨j, hj⟩ : ∃ j, W.heap.size = j := ⟨_, rfl⟩
    rw [hj] at hl hne
    rw [hj]
    refine hF.out _ _ (hS2.since hb) (fun _ => ?_)
    clear hF F hj
    generalize W.alloc (.cells #[.int .u8 who] 5) = Wx at hb ho hl ⊢
    refine wpAnyH_ready (rs := [5]) (by kernel_rfl) (by simp) ?_
    refine AllReadyH.cons (o := Oper.mk (some 111) _ _ _ _ _) rfl (fun F hF => ?_) AllReadyH.nil
    rw [if_pos (by rfl)]
    obtain ⟨v8, wc, hrun, hq8, hg8, hat8⟩ := append_own Wx w2.heap.size 29 _ ([u1 134]) ho (some ⟨j, 0, none⟩) [u1 who] 1 hl.seen (by simp [octs_len]) hb.size
    simp only [List.length_singleton] at hrun
    refine Lib.wp_append_run Wx _ _ _ _ rfl _ _ rfl rfl v8 wc hrun ?_
    have hb := ho.grew hb (Nat.le_refl _) hb.size hg8
    clear hg8 hat8 hrun ho
    have ho := hq8
    clear hq8
    simp only [Act.put, List.setIfInBounds_toArray, List.set_cons_zero, List.set_cons_succ]
    refine hF.out _ _ (hS2.since hb) (fun _ => ?_)
    clear hF F
    refine wpAnyH_ready (rs := [8]) (by kernel_rfl) (by simp) ?_
    refine AllReadyH.cons (o := Oper.mk (some 114) _ _ _ _ _) rfl (fun F hF => ?_) AllReadyH.nil
    have hlt : ∀ k, v8.ownBlock = some k → k < wc.heap.size := fun k e => (ho.lt e).2
    go_simp
    refine (rput_ok (n : Int) 2 n 2 _ rfl rfl (by decide) (by omega) (by omega)).mono ?_
    rintro e wa ⟨v6, rfl, ho6, hb6⟩
    have ho := ho.since hb6
    have hb := hb.trans (hb6.mono hb.size)
    obtain ⟨A6, c6', rfl, hs6⟩ := ho6.seen_at hso.out
    have hn6 : ∀ k, v8.ownBlock = some k → ∀ a, A6 = some a → k ≠ a.block := fun k e a ha => by subst ha; have h1 := (ho6.lt (g := a.block) rfl).1; have h2 := hlt k e; omega
    clear ho6
    dsimp only
    refine hF.out _ _ (hS2.since hb) (fun _ => ?_)
    clear hF F
    refine wpAnyH_ready (rs := [9]) (by kernel_rfl) (by simp) ?_
    refine AllReadyH.cons (o := Oper.mk (some 115) _ _ _ _ _) rfl (fun F hF => ?_) AllReadyH.nil
    rw [if_pos (by rfl)]
    obtain ⟨v9, wd, hrun, hq8, hg8, hat8⟩ := append_own wa w2.heap.size 29 _ ([u1 134] ++ [u1 who]) ho A6 (octs 2 n) c6' hs6 (by simp [octs_len]) hb.size
    rw [hso.out] at hrun
    refine Lib.wp_append_run wa _ _ _ _ rfl _ _ rfl rfl v9 wd hrun ?_
    have hb := ho.grew hb (Nat.le_refl _) hb.size hg8
    clear hg8 hat8 hrun ho
    have ho := hq8
    clear hq8
    simp only [Act.put, List.setIfInBounds_toArray, List.set_cons_zero, List.set_cons_succ]
    refine hF.out _ _ (hS2.since hb) (fun _ => ?_)
    clear hF F
    refine wpAnyH_take (i := 10) (oi := Oper.mk (some 2) _ _ _ _ _) (v := ?_) rfl (by kernel_rfl) (by kernel_rfl) (by kernel_rfl) (fun _ _ _ h => h) (Or.inl ⟨by rfl, ?_⟩) (hS2.since hb) ?_
    rotate_left
    · intro w hSw
      go_simp
      try with_reducible rfl
    simp only [Act.put, List.setIfInBounds_toArray, List.set_cons_zero, List.set_cons_succ]
    try dsimp only
    refine wpAnyH_take (i := 11) (oi := Oper.mk (some 3) _ _ _ _ _) (v := ?_) rfl (by kernel_rfl) (by kernel_rfl) (by kernel_rfl) (fun _ _ _ h => h) (Or.inl ⟨by rfl, ?_⟩) (hS2.since hb) ?_
    rotate_left
    · intro w hSw
      go_simp
      try with_reducible rfl
    simp only [Act.put, List.setIfInBounds_toArray, List.set_cons_zero, List.set_cons_succ]
    try dsimp only
    refine wpAnyH_done (by kernel_rfl) ?_ _
    have hw7 := hS2.2.trans (hb.mono hS2.2.size)
    have hz := hS2.2.size
    clear hS2 hb
    go_wp2
    go_ret2
    exact ⟨v9, rfl, by have h := ho.mono hz; simpa [replyB, List.append_assoc] using h, hw7⟩
set_option maxRecDepth 100000 in
set_option maxHeartbeats 4000000 in
theorem refPutR_135 (r : R) (w : World) (h8 : r.nonce.length = 8) (h : okR r = true) (hkd : r.kind = 135) : Calls Try.prog 16 #[.agg (rv r).toArray] w fun e w' => ∃ v, e = .returned (.tuple #[v, .int .i64 0]) ∧ Own w' w.heap.size v (replyB r) ∧ Below w.heap.size w w' := by
  have hA := Arr.new w (rv r) 28
  have hw := below_new w (.cells (rv r).toArray 28)
  have hS0 : Ry w w.heap.size r (w.alloc (.cells (rv r).toArray 28)) := ⟨hA, hw⟩
  obtain ⟨c0, c1, c2, c3, c4, c5⟩ := rv_cells hA
  have hnm := fun W => replies_ok r h8 W
  have hq := fun W => neq_reply (namedR r) r (namedR_eight r h8) h8 W
  have hrl := rv_len r h8
  obtain ⟨dd, d1, d2, d3⟩ := rowB_spec (P := Try.prog) (ty := 28) (n := 14) (by kernel_rfl)
  replace d1 := Lib.hid d1
  replace d3 := Lib.hid d3
  replace hrl := Lib.hid hrl
  obtain ⟨bk, hbk⟩ : ∃ b, inI r.kind 129 136 = b := ⟨_, rfl⟩
  obtain ⟨bs, hbs⟩ : ∃ b, inI r.seq 0 4294967295 = b := ⟨_, rfl⟩
  obtain ⟨br, hbr⟩ : ∃ b, inI r.role 0 3 = b := ⟨_, rfl⟩
  obtain ⟨bw, hbw⟩ : ∃ b, inI r.who 0 4 = b := ⟨_, rfl⟩
  obtain ⟨be, hbe⟩ : ∃ b, inI r.epoch 0 65535 = b := ⟨_, rfl⟩
  obtain ⟨bc, hbc⟩ : ∃ b, inI r.code 0 255 = b := ⟨_, rfl⟩
  obtain ⟨hnd, hkk, hse, hro, hwh, hep, hco⟩ := okR_parts h
  have hall : bk = true ∧ bs = true ∧ br = true ∧ bw = true ∧ be = true ∧ bc = true := by
    unfold okR fitsR at h
    rw [hbk, hbs, hbr, hbw, hbe, hbc] at h
    simp only [Bool.and_eq_true] at h
    exact ⟨h.1.1.1.1.1.1, h.1.1.1.1.1.2, h.1.1.1.1.2, h.1.1.1.2, h.1.1.2, h.1.2⟩
  rw [decide_eq_true hnd] at hq
  obtain ⟨rfl, rfl, rfl, rfl, rfl, rfl⟩ := hall
  clear h hnd hkk
  replace hkd := Lib.hid hkd
  replace h8 := Lib.hid h8
  replace hbk := Lib.hid hbk
  replace hbs := Lib.hid hbs
  replace hbr := Lib.hid hbr
  replace hbw := Lib.hid hbw
  replace hbe := Lib.hid hbe
  replace hbc := Lib.hid hbc
  clear hA hw
  go_enter Try.func16, Try.ntmps16
  try dsimp only [List.append]
  go_wp2_with fail
  refine (in_ok _ _ _ true _ hbk.out).mono ?_
  rintro e w' ⟨rfl, rfl⟩
  go_wp2_with fail
  refine (in_ok _ _ _ true _ hbs.out).mono ?_
  rintro e w' ⟨rfl, rfl⟩
  go_wp2_with fail
  refine (in_ok _ _ _ true _ hbr.out).mono ?_
  rintro e w' ⟨rfl, rfl⟩
  go_wp2_with fail
  refine (in_ok _ _ _ true _ hbw.out).mono ?_
  rintro e w' ⟨rfl, rfl⟩
  go_wp2_with fail
  refine (in_ok _ _ _ true _ hbe.out).mono ?_
  rintro e w' ⟨rfl, rfl⟩
  go_wp2_with fail
  refine (in_ok _ _ _ true _ hbc.out).mono ?_
  rintro e w' ⟨rfl, rfl⟩
  clear c0 c1 c2 c3 c4 c5
  generalize w.alloc (.cells (rv r).toArray 28) = w1 at hS0 ⊢
  obtain ⟨g, hgl⟩ : ∃ g, g = w.heap.size := ⟨_, rfl⟩
  rw [← hgl] at hS0
  simp only [← hgl]
  replace hgl := Lib.hid hgl
  have hD : Ry w g r w1.drew := hS0.since (Below.drew (Below.refl _ _))
  go_wp2_with fail
  refine wp_region_held_drew (S := Ry w g r) (by kernel_rfl) hD (fun _ => ?_)
  refine wpAnyH_take (i := 0) (oi := Oper.mk (some 34) _ _ _ _ _) (v := ?_) rfl (by kernel_rfl) (by kernel_rfl) (by kernel_rfl) (fun _ _ _ h => h) (Or.inl ⟨by rfl, ?_⟩) hD ?_
  rotate_left
  · intro w hSw
    go_simp
    try with_reducible rfl
  simp only [Act.put, List.setIfInBounds_toArray, List.set_cons_zero, List.set_cons_succ]
  try dsimp only
  refine wpAnyH_take (i := 1) (oi := Oper.mk (some 35) _ _ _ _ _) (v := ?_) rfl (by kernel_rfl) (by kernel_rfl) (by kernel_rfl) (fun _ _ _ h => h) (Or.inl ⟨by rfl, ?_⟩) hD ?_
  rotate_left
  · intro w hSw
    go_simp
    try with_reducible rfl
  simp only [Act.put, List.setIfInBounds_toArray, List.set_cons_zero, List.set_cons_succ]
  try dsimp only
  refine wpAnyH_take (i := 2) (oi := Oper.mk (some 36) _ _ _ _ _) (v := ?_) rfl (by kernel_rfl) (by kernel_rfl) (by kernel_rfl) (fun _ _ _ h => h) (Or.inl ⟨by rfl, ?_⟩) hD ?_
  rotate_left
  · intro w hSw
    go_simp
    try with_reducible rfl
  simp only [Act.put, List.setIfInBounds_toArray, List.set_cons_zero, List.set_cons_succ]
  try dsimp only
  refine wpAnyH_take (i := 3) (oi := Oper.mk (some 37) _ _ _ _ _) (v := .agg (rv r).toArray) rfl (by kernel_rfl) (by kernel_rfl) (by kernel_rfl) (fun _ _ _ h => h) (yieldsIf_load_mid rfl _ _ rfl g 0 rfl (rv r) dd (fun w h => h.1.range) d1.out d2 (by rw [d3.out, hrl.out])) hD ?_
  simp only [Act.put, List.setIfInBounds_toArray, List.set_cons_zero, List.set_cons_succ]
  try dsimp only
  refine wpAnyH_take (i := 5) (oi := Oper.mk (some 39) _ _ _ _ _) (v := .agg (rv r).toArray) rfl (by kernel_rfl) (by kernel_rfl) (by kernel_rfl) (fun _ _ _ h => h) (yieldsIf_load_mid rfl _ _ rfl g 0 rfl (rv r) dd (fun w h => h.1.range) d1.out d2 (by rw [d3.out, hrl.out])) hD ?_
  simp only [Act.put, List.setIfInBounds_toArray, List.set_cons_zero, List.set_cons_succ]
  try dsimp only
  refine wpAnyH_ready (rs := [4]) (by kernel_rfl) (by simp) ?_
  refine AllReadyH.cons rfl (fun K hK => ?_) AllReadyH.nil
  go_simp
  refine (hnm _).mono ?_
  rintro e w2 ⟨rfl, hb2⟩
  have hS2 := hD.since hb2
  clear hb2
  dsimp only
  refine hK.out _ _ hS2 (fun _ => ?_)
  clear hK K
  refine wpAnyH_take (i := 6) (oi := Oper.mk (some 40) _ _ _ _ _) (v := ?_) rfl (by kernel_rfl) (by kernel_rfl) (by kernel_rfl) (fun _ _ _ h => h) (Or.inl ⟨by rfl, ?_⟩) hS2 ?_
  rotate_left
  · intro w hSw
    go_simp
    try with_reducible rfl
  simp only [Act.put, List.setIfInBounds_toArray, List.set_cons_zero, List.set_cons_succ]
  try dsimp only
  refine wpAnyH_take (i := 7) (oi := Oper.mk (some 41) _ _ _ _ _) (v := ?_) rfl (by kernel_rfl) (by kernel_rfl) (by kernel_rfl) (fun _ _ _ h => h) (Or.inl ⟨by rfl, ?_⟩) hS2 ?_
  rotate_left
  · intro w hSw
    go_simp
    try with_reducible rfl
  simp only [Act.put, List.setIfInBounds_toArray, List.set_cons_zero, List.set_cons_succ]
  try dsimp only
  refine wpAnyH_done (by kernel_rfl) ?_ _
  replace hkd := hkd.out
  replace h8 := h8.out
  obtain ⟨kind, seq, role, who, epoch, code, nonce⟩ := r
  simp only at hkd hse hro hwh hep hco h8
  clear hD hq hnm
  obtain rfl := hkd
  · -- kind 135
    have ho := (lit_one w2 135 (by decide)).own (base := w2.heap.size) (Nat.le_refl _)
    have hb := below_new w2 (.cells #[.int .u8 135] 5)
    have d0 := (rv_cells hS2.1).1
    obtain ⟨c0, c1, c2, c3, c4, c5⟩ := rv_cells (hS2.since hb).1
    have hD : Ry w g _ (w2.alloc (.cells #[.int .u8 135] 5)).drew := (hS2.since hb).since (Below.drew (Below.refl _ _))
    have hb := hb.drew
    have hoD : Own (w2.alloc (.cells #[.int .u8 135] 5)).drew w2.heap.size (.slice (some ⟨w2.heap.size, 0, none⟩) 1 1) [u1 135] := ho
    clear ho
    have ho := hoD
    clear hoD
    obtain ⟨n, rfl⟩ : ∃ n : Nat, epoch = n := ⟨epoch.toNat, by omega⟩
    have hso := octs_len 2 n
    replace hso := Lib.hid hso
    go_wp2_with fail
    refine wp_region_held_drew (S := Ry w g _) (by kernel_rfl) hD (fun _ => ?_)
    refine wpAnyH_take (i := 0) (oi := Oper.mk (some 106) _ _ _ _ _) (v := ?_) rfl (by kernel_rfl) (by kernel_rfl) (by kernel_rfl) (fun _ _ _ h => h) (Or.inl ⟨by rfl, ?_⟩) hD ?_
    rotate_left
    · intro w hSw
      go_simp
      try with_reducible rfl
    simp only [Act.put, List.setIfInBounds_toArray, List.set_cons_zero, List.set_cons_succ]
    try dsimp only
    refine wpAnyH_take (i := 1) (oi := Oper.mk (some 107) _ _ _ _ _) (v := ?_) rfl (by kernel_rfl) (by kernel_rfl) (by kernel_rfl) (fun _ _ _ h => h) (Or.inl ⟨by rfl, ?_⟩) hD ?_
    rotate_left
    · intro w hSw
      go_simp
      try with_reducible rfl
    simp only [Act.put, List.setIfInBounds_toArray, List.set_cons_zero, List.set_cons_succ]
    try dsimp only
    refine wpAnyH_take (i := 2) (oi := Oper.mk (some 108) _ _ _ _ _) (v := ?_) rfl (by kernel_rfl) (by kernel_rfl) (by kernel_rfl) (fun _ _ _ h => h) (Or.inl ⟨by rfl, ?_⟩) hD ?_
    rotate_left
    · intro w hSw
      obtain ⟨c0, c1, c2, c3, c4, c5⟩ := rv_cells hSw.1
      go_simp
      try with_reducible rfl
    simp only [Act.put, List.setIfInBounds_toArray, List.set_cons_zero, List.set_cons_succ]
    try dsimp only
    refine wpAnyH_take (i := 3) (oi := Oper.mk (some 109) _ _ _ _ _) (v := ?_) rfl (by kernel_rfl) (by kernel_rfl) (by kernel_rfl) (fun _ _ _ h => h) (Or.inl ⟨by rfl, ?_⟩) hD ?_
    rotate_left
    · intro w hSw
      go_simp
      try with_reducible rfl
    simp only [Act.put, List.setIfInBounds_toArray, List.set_cons_zero, List.set_cons_succ]
    try dsimp only
    refine wpAnyH_take (i := 6) (oi := Oper.mk (some 112) _ _ _ _ _) (v := ?_) rfl (by kernel_rfl) (by kernel_rfl) (by kernel_rfl) (fun _ _ _ h => h) (Or.inl ⟨by rfl, ?_⟩) hD ?_
    rotate_left
    · intro w hSw
      go_simp
      try with_reducible rfl
    simp only [Act.put, List.setIfInBounds_toArray, List.set_cons_zero, List.set_cons_succ]
    try dsimp only
    refine wpAnyH_take (i := 7) (oi := Oper.mk (some 113) _ _ _ _ _) (v := ?_) rfl (by kernel_rfl) (by kernel_rfl) (by kernel_rfl) (fun _ _ _ h => h) (Or.inl ⟨by rfl, ?_⟩) hD ?_
    rotate_left
    · intro w hSw
      obtain ⟨c0, c1, c2, c3, c4, c5⟩ := rv_cells hSw.1
      go_simp
      try with_reducible rfl
    simp only [Act.put, List.setIfInBounds_toArray, List.set_cons_zero, List.set_cons_succ]
    try dsimp only
    have ewwho : IntKind.u8.wrap who = who := by rw [IntKind.wrap_u8]; omega
    simp only [ewwho]
    clear hD d0 c0 c1 c2 c3 c4 c5 ewwho
    generalize (w2.alloc (.cells #[.int .u8 135] 5)).drew = W at hb ho ⊢
    generalize (Value.slice (some ⟨w2.heap.size, 0, none⟩) 1 1) = v5 at ho ⊢
    refine wpAnyH_ready (rs := [4]) (by kernel_rfl) (by simp) ?_
    refine AllReadyH.cons (o := Oper.mk (some 110) _ _ _ _ _) rfl (fun F hF => ?_) AllReadyH.nil
    go_simp
    have hl := lit_one W who (by omega)
    have hne : ∀ k, v5.ownBlock = some k → k < W.heap.size := fun k e => (ho.lt e).2
    have ho := ho.alloc (.cells #[.int .u8 who] 5)
    have hb := hb.alloc hb.size (.cells #[.int .u8 who] 5)
    obtain ⟨j, hj⟩ : ∃ j, W.heap.size = j := ⟨_, rfl⟩
    rw [hj] at hl hne
    rw [hj]
    refine hF.out _ _ (hS2.since hb) (fun _ => ?_)
    clear hF F hj
    generalize W.alloc (.cells #[.int .u8 who] 5) = Wx at hb ho hl ⊢
    refine wpAnyH_ready (rs := [5]) (by kernel_rfl) (by simp) ?_
    refine AllReadyH.cons (o := Oper.mk (some 111) _ _ _ _ _) rfl (fun F hF => ?_) AllReadyH.nil
    rw [if_pos (by rfl)]
    obtain ⟨v8, wc, hrun, hq8, hg8, hat8⟩ := append_own Wx w2.heap.size 29 _ ([u1 135]) ho (some ⟨j, 0, none⟩) [u1 who] 1 hl.seen (by simp [octs_len]) hb.size
    simp only [List.length_singleton] at hrun
    refine Lib.wp_append_run Wx _ _ _ _ rfl _ _ rfl rfl v8 wc hrun ?_
    have hb := ho.grew hb (Nat.le_refl _) hb.size hg8
    clear hg8 hat8 hrun ho
    have ho := hq8
    clear hq8
    simp only [Act.put, List.setIfInBounds_toArray, List.set_cons_zero, List.set_cons_succ]
    refine hF.out _ _ (hS2.since hb) (fun _ => ?_)
    clear hF F
    refine wpAnyH_ready (rs := [8]) (by kernel_rfl) (by simp) ?_
    refine AllReadyH.cons (o := Oper.mk (some 114) _ _ _ _ _) rfl (fun F hF => ?_) AllReadyH.nil
    have hlt : ∀ k, v8.ownBlock = some k → k < wc.heap.size := fun k e => (ho.lt e).2
    go_simp
    refine (rput_ok (n : Int) 2 n 2 _ rfl rfl (by decide) (by omega) (by omega)).mono ?_
    rintro e wa ⟨v6, rfl, ho6, hb6⟩
    have ho := ho.since hb6
    have hb := hb.trans (hb6.mono hb.size)
    obtain ⟨A6, c6', rfl, hs6⟩ := ho6.seen_at hso.out
    have hn6 : ∀ k, v8.ownBlock = some k → ∀ a, A6 = some a → k ≠ a.block := fun k e a ha => by subst ha; have h1 := (ho6.lt (g := a.block) rfl).1; have h2 := hlt k e; omega
    clear ho6
    dsimp only
    refine hF.out _ _ (hS2.since hb) (fun _ => ?_)
    clear hF F
    refine wpAnyH_ready (rs := [9]) (by kernel_rfl) (by simp) ?_
    refine AllReadyH.cons (o := Oper.mk (some 115) _ _ _ _ _) rfl (fun F hF => ?_) AllReadyH.nil
    rw [if_pos (by rfl)]
    obtain ⟨v9, wd, hrun, hq8, hg8, hat8⟩ := append_own wa w2.heap.size 29 _ ([u1 135] ++ [u1 who]) ho A6 (octs 2 n) c6' hs6 (by simp [octs_len]) hb.size
    rw [hso.out] at hrun
    refine Lib.wp_append_run wa _ _ _ _ rfl _ _ rfl rfl v9 wd hrun ?_
    have hb := ho.grew hb (Nat.le_refl _) hb.size hg8
    clear hg8 hat8 hrun ho
    have ho := hq8
    clear hq8
    simp only [Act.put, List.setIfInBounds_toArray, List.set_cons_zero, List.set_cons_succ]
    refine hF.out _ _ (hS2.since hb) (fun _ => ?_)
    clear hF F
    refine wpAnyH_take (i := 10) (oi := Oper.mk (some 2) _ _ _ _ _) (v := ?_) rfl (by kernel_rfl) (by kernel_rfl) (by kernel_rfl) (fun _ _ _ h => h) (Or.inl ⟨by rfl, ?_⟩) (hS2.since hb) ?_
    rotate_left
    · intro w hSw
      go_simp
      try with_reducible rfl
    simp only [Act.put, List.setIfInBounds_toArray, List.set_cons_zero, List.set_cons_succ]
    try dsimp only
    refine wpAnyH_take (i := 11) (oi := Oper.mk (some 3) _ _ _ _ _) (v := ?_) rfl (by kernel_rfl) (by kernel_rfl) (by kernel_rfl) (fun _ _ _ h => h) (Or.inl ⟨by rfl, ?_⟩) (hS2.since hb) ?_
    rotate_left
    · intro w hSw
      go_simp
      try with_reducible rfl
    simp only [Act.put, List.setIfInBounds_toArray, List.set_cons_zero, List.set_cons_succ]
    try dsimp only
    refine wpAnyH_done (by kernel_rfl) ?_ _
    have hw7 := hS2.2.trans (hb.mono hS2.2.size)
    have hz := hS2.2.size
    clear hS2 hb
    go_wp2
    go_ret2
    exact ⟨v9, rfl, by have h := ho.mono hz; simpa [replyB, List.append_assoc] using h, hw7⟩
/-- whatever it is handed -/
theorem refPutR_ok (r : R) (w : World) (h8 : r.nonce.length = 8) : Calls Try.prog 16 #[.agg (rv r).toArray] w fun e w' => ∃ v, e = .returned (.tuple #[v, .int .i64 (codeR r)]) ∧ Own w' w.heap.size v (bytesR r) ∧ Below w.heap.size w w' := by
  cases h : okR r with
  | false =>
    have e : codeR r = 1 ∧ bytesR r = [] := ⟨if_neg (by simp [h]), if_neg (by simp [h])⟩
    rw [e.1, e.2]
    refine (refPutR_no r w h8 h).mono ?_
    rintro e w' ⟨rfl, hb⟩
    exact ⟨_, rfl, Own.none_ _ _, hb⟩
  | true =>
    rw [(codeR_ok h).1, (codeR_ok h).2]
    rcases kinds_R (okR_parts h).2.1 with e | e | e | e | e | e | e | e
    · exact refPutR_129 r w h8 h e
    · exact refPutR_130 r w h8 h e
    · exact refPutR_131 r w h8 h e
    · exact refPutR_132 r w h8 h e
    · exact refPutR_133 r w h8 h e
    · exact refPutR_134 r w h8 h e
    · exact refPutR_135 r w h8 h e
    · exact refPutR_136 r w h8 h e
end Go.Proofs.Ytmibgmcgicphoaa.msg
