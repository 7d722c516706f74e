/-
  CONTRACT OF msg's reference: PutReply. (Written by program: wip/tools/gen_msg_refputr.py.)
-/
import Derived.Test.YtmibgmcgicphoaaMsgRefPutA
import Derived.Test.YtmibgmcgicphoaaMsgRefReplies
namespace Go.Proofs.Ytmibgmcgicphoaa.msg
open Go.RowKit Go.Proofs.Ytmibgmcgicphoaa.octets Go.Proofs.Ytmibgmcgicphoaa.pack
set_option linter.unusedVariables false
set_option linter.unusedSimpArgs false

/-- what holds while a region draws: the cells of the reply -/
def Ry (w : World) (g : Nat) (r : R) (W : World) : Prop := Arr W g (rv r) ∧ Below w.heap.size w W
theorem Ry.since {w W W' : World} {g : Nat} {r : R} (h : Ry w g r W) (hb : Below W.heap.size W W') : Ry w g r W' := ⟨h.1.since hb, h.2.trans (hb.mono h.2.size)⟩
theorem rv_cells {w : World} {b : Nat} {r : R} (h : Arr w b (rv r)) : w.cell? ⟨b, 0, none⟩ = some (.int .i64 r.kind) ∧ w.cell? ⟨b, 1, none⟩ = some (.int .i64 r.seq) ∧ w.cell? ⟨b, 2, none⟩ = some (.int .i64 r.role) ∧ w.cell? ⟨b, 3, none⟩ = some (.int .i64 r.who) ∧ w.cell? ⟨b, 4, none⟩ = some (.int .i64 r.epoch) ∧ w.cell? ⟨b, 5, none⟩ = some (.int .i64 r.code) :=
  ⟨h.cell rfl, h.cell rfl, h.cell rfl, h.cell rfl, h.cell rfl, h.cell rfl⟩

theorem namedR_eight (r : R) (h : r.nonce.length = 8) : (namedR r).nonce.length = 8 := by
  unfold namedR
  repeat' split
  all_goals first | rfl | simpa using h

set_option maxRecDepth 100000 in
set_option maxHeartbeats 4000000 in
theorem refPutR_no (r : R) (w : World) (h8 : r.nonce.length = 8) (h : okR r = false) : Calls Try.prog 16 #[.agg (rv r).toArray] w fun e w' => e = .returned (.tuple #[.slice none 0 0, .int .i64 1]) ∧ Below w.heap.size w w' := by
  have hA := Arr.new w (rv r) 28
  have hw := below_new w (.cells (rv r).toArray 28)
  have hS0 : Ry w w.heap.size r (w.alloc (.cells (rv r).toArray 28)) := ⟨hA, hw⟩
  obtain ⟨c0, c1, c2, c3, c4, c5⟩ := rv_cells hA
  have hnm := fun W => replies_ok r h8 W
  have hq := fun W => neq_reply (namedR r) r (namedR_eight r h8) h8 W
  have hrl := rv_len r h8
  obtain ⟨dd, d1, d2, d3⟩ := rowB_spec (P := Try.prog) (ty := 28) (n := 14) (by kernel_rfl)
  replace d1 := Lib.hid d1
  replace d3 := Lib.hid d3
  replace hrl := Lib.hid hrl
  obtain ⟨bk, hbk⟩ : ∃ b, inI r.kind 129 136 = b := ⟨_, rfl⟩
  obtain ⟨bs, hbs⟩ : ∃ b, inI r.seq 0 4294967295 = b := ⟨_, rfl⟩
  obtain ⟨br, hbr⟩ : ∃ b, inI r.role 0 3 = b := ⟨_, rfl⟩
  obtain ⟨bw, hbw⟩ : ∃ b, inI r.who 0 4 = b := ⟨_, rfl⟩
  obtain ⟨be, hbe⟩ : ∃ b, inI r.epoch 0 65535 = b := ⟨_, rfl⟩
  obtain ⟨bc, hbc⟩ : ∃ b, inI r.code 0 255 = b := ⟨_, rfl⟩
  have hnd : (bk && bs && br && bw && be && bc) = true → decide (namedR r = r) = false := fun hb => by
    unfold okR fitsR at h
    rw [hbk, hbs, hbr, hbw, hbe, hbc, hb] at h
    simpa using h
  replace hnd := Lib.hid hnd
  clear h
  replace hbk := Lib.hid hbk
  replace hbs := Lib.hid hbs
  replace hbr := Lib.hid hbr
  replace hbw := Lib.hid hbw
  replace hbe := Lib.hid hbe
  replace hbc := Lib.hid hbc
  clear hA hw
  go_enter Try.func16, Try.ntmps16
  try dsimp only [List.append]
  go_wp2_with fail
  refine (in_ok _ _ _ bk _ hbk.out).mono ?_
  rintro e w' ⟨rfl, rfl⟩
  cases bk
  · go_wp2_with fail
    go_quiet (fail)
    have hw := below_drawn hS0.2 nq
    go_wp2
    go_ret2
    exact ⟨rfl, hw⟩
  go_wp2_with fail
  refine (in_ok _ _ _ bs _ hbs.out).mono ?_
  rintro e w' ⟨rfl, rfl⟩
  cases bs
  · go_wp2_with fail
    go_quiet (fail)
    have hw := below_drawn hS0.2 nq
    go_wp2
    go_ret2
    exact ⟨rfl, hw⟩
  go_wp2_with fail
  refine (in_ok _ _ _ br _ hbr.out).mono ?_
  rintro e w' ⟨rfl, rfl⟩
  cases br
  · go_wp2_with fail
    go_quiet (fail)
    have hw := below_drawn hS0.2 nq
    go_wp2
    go_ret2
    exact ⟨rfl, hw⟩
  go_wp2_with fail
  refine (in_ok _ _ _ bw _ hbw.out).mono ?_
  rintro e w' ⟨rfl, rfl⟩
  cases bw
  · go_wp2_with fail
    go_quiet (fail)
    have hw := below_drawn hS0.2 nq
    go_wp2
    go_ret2
    exact ⟨rfl, hw⟩
  go_wp2_with fail
  refine (in_ok _ _ _ be _ hbe.out).mono ?_
  rintro e w' ⟨rfl, rfl⟩
  cases be
  · go_wp2_with fail
    go_quiet (fail)
    have hw := below_drawn hS0.2 nq
    go_wp2
    go_ret2
    exact ⟨rfl, hw⟩
  go_wp2_with fail
  refine (in_ok _ _ _ bc _ hbc.out).mono ?_
  rintro e w' ⟨rfl, rfl⟩
  cases bc
  · go_wp2_with fail
    go_quiet (fail)
    have hw := below_drawn hS0.2 nq
    go_wp2
    go_ret2
    exact ⟨rfl, hw⟩
  have hn := hnd.out rfl
  rw [hn] at hq
  clear hnd hn
  clear c0 c1 c2 c3 c4 c5
  generalize w.alloc (.cells (rv r).toArray 28) = w1 at hS0 ⊢
  obtain ⟨g, hgl⟩ : ∃ g, g = w.heap.size := ⟨_, rfl⟩
  rw [← hgl] at hS0
  simp only [← hgl]
  replace hgl := Lib.hid hgl
  have hD : Ry w g r w1.drew := hS0.since (Below.drew (Below.refl _ _))
  go_wp2_with fail
  refine wp_region_held_drew (S := Ry w g r) (by kernel_rfl) hD (fun _ => ?_)
  refine wpAnyH_take (i := 0) (oi := Oper.mk (some 34) _ _ _ _ _) (v := ?_) rfl (by kernel_rfl) (by kernel_rfl) (by kernel_rfl) (fun _ _ _ h => h) (Or.inl ⟨by rfl, ?_⟩) hD ?_
  rotate_left
  · intro w hSw
    go_simp
    try with_reducible rfl
  simp only [Act.put, List.setIfInBounds_toArray, List.set_cons_zero, List.set_cons_succ]
  try dsimp only
  refine wpAnyH_take (i := 1) (oi := Oper.mk (some 35) _ _ _ _ _) (v := ?_) rfl (by kernel_rfl) (by kernel_rfl) (by kernel_rfl) (fun _ _ _ h => h) (Or.inl ⟨by rfl, ?_⟩) hD ?_
  rotate_left
  · intro w hSw
    go_simp
    try with_reducible rfl
  simp only [Act.put, List.setIfInBounds_toArray, List.set_cons_zero, List.set_cons_succ]
  try dsimp only
  refine wpAnyH_take (i := 2) (oi := Oper.mk (some 36) _ _ _ _ _) (v := ?_) rfl (by kernel_rfl) (by kernel_rfl) (by kernel_rfl) (fun _ _ _ h => h) (Or.inl ⟨by rfl, ?_⟩) hD ?_
  rotate_left
  · intro w hSw
    go_simp
    try with_reducible rfl
  simp only [Act.put, List.setIfInBounds_toArray, List.set_cons_zero, List.set_cons_succ]
  try dsimp only
  refine wpAnyH_take (i := 3) (oi := Oper.mk (some 37) _ _ _ _ _) (v := .agg (rv r).toArray) rfl (by kernel_rfl) (by kernel_rfl) (by kernel_rfl) (fun _ _ _ h => h) (yieldsIf_load_mid rfl _ _ rfl g 0 rfl (rv r) dd (fun w h => h.1.range) d1.out d2 (by rw [d3.out, hrl.out])) hD ?_
  simp only [Act.put, List.setIfInBounds_toArray, List.set_cons_zero, List.set_cons_succ]
  try dsimp only
  refine wpAnyH_take (i := 5) (oi := Oper.mk (some 39) _ _ _ _ _) (v := .agg (rv r).toArray) rfl (by kernel_rfl) (by kernel_rfl) (by kernel_rfl) (fun _ _ _ h => h) (yieldsIf_load_mid rfl _ _ rfl g 0 rfl (rv r) dd (fun w h => h.1.range) d1.out d2 (by rw [d3.out, hrl.out])) hD ?_
  simp only [Act.put, List.setIfInBounds_toArray, List.set_cons_zero, List.set_cons_succ]
  try dsimp only
  refine wpAnyH_ready (rs := [4]) (by kernel_rfl) (by simp) ?_
  refine AllReadyH.cons rfl (fun K hK => ?_) AllReadyH.nil
  go_simp
  refine (hnm _).mono ?_
  rintro e w2 ⟨rfl, hb2⟩
  have hS2 := hD.since hb2
  clear hb2
  dsimp only
  refine hK.out _ _ hS2 (fun _ => ?_)
  clear hK K
  refine wpAnyH_take (i := 6) (oi := Oper.mk (some 40) _ _ _ _ _) (v := ?_) rfl (by kernel_rfl) (by kernel_rfl) (by kernel_rfl) (fun _ _ _ h => h) (Or.inl ⟨by rfl, ?_⟩) hS2 ?_
  rotate_left
  · intro w hSw
    go_simp
    try with_reducible rfl
  simp only [Act.put, List.setIfInBounds_toArray, List.set_cons_zero, List.set_cons_succ]
  try dsimp only
  refine wpAnyH_take (i := 7) (oi := Oper.mk (some 41) _ _ _ _ _) (v := ?_) rfl (by kernel_rfl) (by kernel_rfl) (by kernel_rfl) (fun _ _ _ h => h) (Or.inl ⟨by rfl, ?_⟩) hS2 ?_
  rotate_left
  · intro w hSw
    go_simp
    try with_reducible rfl
  simp only [Act.put, List.setIfInBounds_toArray, List.set_cons_zero, List.set_cons_succ]
  try dsimp only
  refine wpAnyH_done (by kernel_rfl) ?_ _
  have hw := hS2.2
  go_wp2
  go_ret2
  exact ⟨rfl, hw⟩
end Go.Proofs.Ytmibgmcgicphoaa.msg
