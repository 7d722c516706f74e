/-
  CONTRACT OF msg's reference: Put, at a message that may be. (Written by program: wip/tools/gen_msg_refput.py.)
-/
import Derived.Test.YtmibgmcgicphoaaMsgRefPut
namespace Go.Proofs.Ytmibgmcgicphoaa.msg
open Go.RowKit Go.Proofs.Ytmibgmcgicphoaa.octets Go.Proofs.Ytmibgmcgicphoaa.pack
set_option linter.unusedVariables false
set_option linter.unusedSimpArgs false

theorem u1_val {n : Int} (h : 0 ≤ n ∧ n ≤ 255) : ((u1 n).toNat : Int) = n := u1_back h.1 h.2
theorem lit_one (W : World) (n : Int) (h : 0 ≤ n ∧ n ≤ 255) : Held (W.alloc (.cells #[.int .u8 n] 5)) W.heap.size 1 [u1 n] := Held.lit W [u1 n] _ (by simp [vals, u1_val h]) (by simp [maxLen])

set_option maxRecDepth 100000 in
set_option maxHeartbeats 4000000 in
theorem refPut_roles (m : M) (w : World) (h : okM m = true) (hkd : m.kind = 1 ∨ m.kind = 2) : Calls Try.prog 12 #[.agg (mv m).toArray] w fun e w' => ∃ v, e = .returned (.tuple #[v, .int .i64 0]) ∧ Own w' w.heap.size v (msgB m) ∧ Below w.heap.size w w' := by
  obtain ⟨hnd, hkk, hseq, hep, hro, hto, hmo, hcl, hx0, hx1, hx2, hx3⟩ := okM_parts h
  have hA := Arr.new w (mv m) 24
  have hw := below_new w (.cells (mv m).toArray 24)
  have hfm := fun W => fits_ok m W
  have hnm := fun W => named_ok m W
  have hbf : fitsM m = true := by unfold okM at h; simp only [Bool.and_eq_true] at h; exact h.1
  rw [hbf] at hfm
  have hq := fun W => neq_msg (namedM m) m W
  rw [decide_eq_true hnd] at hq
  obtain ⟨dd, d1, d2, d3⟩ := rowB_spec (P := Try.prog) (ty := 24) (n := 12) (by kernel_rfl)
  replace d1 := Lib.hid d1
  replace d3 := Lib.hid d3
  clear h hbf hnd
  go_enter Try.func12, Try.ntmps12
  go_wp2_with (guard_target =~ wpList _ _ _ (Oper.mk _ (Op.load _ _) _ _ _ _ :: _) _ _; refine wpList_load_arr 12 rfl rfl rfl hA (by kernel_rfl) rfl ?_)
  generalize w.alloc (.cells (mv m).toArray 24) = W0 at hA hw ⊢
  refine (hfm _).mono ?_
  rintro e w1 ⟨rfl, hb1⟩
  have hS0 : Bx w w.heap.size m w1 := (show Bx w w.heap.size m W0 from ⟨hA, hw⟩).since hb1
  clear hA hw hb1
  generalize w.heap.size = g at hS0 ⊢
  have hD : Bx w g m w1.drew := hS0.since (Below.drew (Below.refl _ _))
  go_wp2_with fail
  refine wp_region_held_drew (S := Bx w g m) (by kernel_rfl) hD (fun _ => ?_)
  refine wpAnyH_take (i := 0) (oi := Oper.mk (some 11) _ _ _ _ _) (v := ?_) rfl (by kernel_rfl) (by kernel_rfl) (by kernel_rfl) (fun _ _ _ h => h) (Or.inl ⟨by rfl, ?_⟩) hD ?_
  rotate_left
  · intro w hSw
    go_simp
    try with_reducible rfl
  simp only [Act.put, List.setIfInBounds_toArray, List.set_cons_zero, List.set_cons_succ]
  try dsimp only
  refine wpAnyH_take (i := 1) (oi := Oper.mk (some 12) _ _ _ _ _) (v := ?_) rfl (by kernel_rfl) (by kernel_rfl) (by kernel_rfl) (fun _ _ _ h => h) (Or.inl ⟨by rfl, ?_⟩) hD ?_
  rotate_left
  · intro w hSw
    go_simp
    try with_reducible rfl
  simp only [Act.put, List.setIfInBounds_toArray, List.set_cons_zero, List.set_cons_succ]
  try dsimp only
  refine wpAnyH_take (i := 2) (oi := Oper.mk (some 13) _ _ _ _ _) (v := ?_) rfl (by kernel_rfl) (by kernel_rfl) (by kernel_rfl) (fun _ _ _ h => h) (Or.inl ⟨by rfl, ?_⟩) hD ?_
  rotate_left
  · intro w hSw
    go_simp
    try with_reducible rfl
  simp only [Act.put, List.setIfInBounds_toArray, List.set_cons_zero, List.set_cons_succ]
  try dsimp only
  refine wpAnyH_take (i := 3) (oi := Oper.mk (some 14) _ _ _ _ _) (v := .agg (mv m).toArray) rfl (by kernel_rfl) (by kernel_rfl) (by kernel_rfl) (fun _ _ _ h => h) (yieldsIf_load_mid rfl _ _ rfl g 0 rfl (mv m) dd (fun w h => h.1.range) d1.out d2 (by rw [d3.out]; rfl)) hD ?_
  simp only [Act.put, List.setIfInBounds_toArray, List.set_cons_zero, List.set_cons_succ]
  try dsimp only
  refine wpAnyH_take (i := 5) (oi := Oper.mk (some 16) _ _ _ _ _) (v := .agg (mv m).toArray) rfl (by kernel_rfl) (by kernel_rfl) (by kernel_rfl) (fun _ _ _ h => h) (yieldsIf_load_mid rfl _ _ rfl g 0 rfl (mv m) dd (fun w h => h.1.range) d1.out d2 (by rw [d3.out]; rfl)) hD ?_
  simp only [Act.put, List.setIfInBounds_toArray, List.set_cons_zero, List.set_cons_succ]
  try dsimp only
  refine wpAnyH_ready (rs := [4]) (by kernel_rfl) (by simp) ?_
  refine AllReadyH.cons rfl (fun K hK => ?_) AllReadyH.nil
  go_simp
  refine (hnm _).mono ?_
  rintro e w2 ⟨rfl, hb2⟩
  have hS2 := hD.since hb2
  clear hb2
  dsimp only
  refine hK.out _ _ hS2 (fun _ => ?_)
  clear hK K
  refine wpAnyH_take (i := 6) (oi := Oper.mk (some 17) _ _ _ _ _) (v := ?_) rfl (by kernel_rfl) (by kernel_rfl) (by kernel_rfl) (fun _ _ _ h => h) (Or.inl ⟨by rfl, ?_⟩) hS2 ?_
  rotate_left
  · intro w hSw
    go_simp
    try with_reducible rfl
  simp only [Act.put, List.setIfInBounds_toArray, List.set_cons_zero, List.set_cons_succ]
  try dsimp only
  refine wpAnyH_take (i := 7) (oi := Oper.mk (some 18) _ _ _ _ _) (v := ?_) rfl (by kernel_rfl) (by kernel_rfl) (by kernel_rfl) (fun _ _ _ h => h) (Or.inl ⟨by rfl, ?_⟩) hS2 ?_
  rotate_left
  · intro w hSw
    go_simp
    try with_reducible rfl
  simp only [Act.put, List.setIfInBounds_toArray, List.set_cons_zero, List.set_cons_succ]
  try dsimp only
  refine wpAnyH_done (by kernel_rfl) ?_ _
  obtain ⟨kind, seq, role, to_, epoch, mode, cls, now, x0, x1, x2, x3⟩ := m
  simp only at hkd hseq hep hro hto hmo hcl hx0 hx1 hx2 hx3
  clear hkk hD hq hnm
  rcases hkd with rfl | rfl
  · -- kind 1
    have ho := (lit_one w2 1 (by decide)).own (base := w2.heap.size) (Nat.le_refl _)
    have hb := below_new w2 (.cells #[.int .u8 1] 5)
    have d0 := (mv_cells hS2.1).1
    obtain ⟨c0, c1, c2, c3, c4, c5, c6, c7, c8, c9, c10, c11⟩ := mv_cells (hS2.since hb).1
    have hr := (lit_one (w2.alloc (.cells #[.int .u8 1] 5)) role (by omega)).seen
    rw [World.size_alloc] at hr
    have ho' := ho.alloc (.cells #[.int .u8 role] 5)
    have hb' := hb.alloc hb.size (.cells #[.int .u8 role] 5)
    go_wp2_with (at_builtin; refine wpList_append_own_any _ rfl _ _ rfl w2.heap.size _ ([u1 1]) rfl ho' _ 1 1 rfl [u1 role] rfl hr (by simp) hb'.size ?_)
    intro v7 w7 ho7 hg7 hat7
    have hb7 := ho'.grew hb' (Nat.le_refl _) hb'.size hg7
    have hw7 := hS2.2.trans (hb7.mono hS2.2.size)
    have hz := hS2.2.size
    clear ho hr ho' hb hb' hg7 hat7 d0 c0 c1 c2 c3 c4 c5 c6 c7 c8 c9 c10 c11 hS2 hb7
    go_wp2
    go_ret2
    exact ⟨_, rfl, by have h := ho7.mono hz; simpa [msgB] using h, hw7⟩
  · -- kind 2
    have ho := (lit_one w2 2 (by decide)).own (base := w2.heap.size) (Nat.le_refl _)
    have hb := below_new w2 (.cells #[.int .u8 2] 5)
    have d0 := (mv_cells hS2.1).1
    obtain ⟨c0, c1, c2, c3, c4, c5, c6, c7, c8, c9, c10, c11⟩ := mv_cells (hS2.since hb).1
    have hr := (lit_one (w2.alloc (.cells #[.int .u8 2] 5)) role (by omega)).seen
    rw [World.size_alloc] at hr
    have ho' := ho.alloc (.cells #[.int .u8 role] 5)
    have hb' := hb.alloc hb.size (.cells #[.int .u8 role] 5)
    go_wp2_with (at_builtin; refine wpList_append_own_any _ rfl _ _ rfl w2.heap.size _ ([u1 2]) rfl ho' _ 1 1 rfl [u1 role] rfl hr (by simp) hb'.size ?_)
    intro v7 w7 ho7 hg7 hat7
    have hb7 := ho'.grew hb' (Nat.le_refl _) hb'.size hg7
    have hw7 := hS2.2.trans (hb7.mono hS2.2.size)
    have hz := hS2.2.size
    clear ho hr ho' hb hb' hg7 hat7 d0 c0 c1 c2 c3 c4 c5 c6 c7 c8 c9 c10 c11 hS2 hb7
    go_wp2
    go_ret2
    exact ⟨_, rfl, by have h := ho7.mono hz; simpa [msgB] using h, hw7⟩
set_option maxRecDepth 100000 in
set_option maxHeartbeats 4000000 in
theorem refPut_seqs (m : M) (w : World) (h : okM m = true) (hkd : m.kind = 3 ∨ m.kind = 4 ∨ m.kind = 8 ∨ m.kind = 9) : Calls Try.prog 12 #[.agg (mv m).toArray] w fun e w' => ∃ v, e = .returned (.tuple #[v, .int .i64 0]) ∧ Own w' w.heap.size v (msgB m) ∧ Below w.heap.size w w' := by
  obtain ⟨hnd, hkk, hseq, hep, hro, hto, hmo, hcl, hx0, hx1, hx2, hx3⟩ := okM_parts h
  have hA := Arr.new w (mv m) 24
  have hw := below_new w (.cells (mv m).toArray 24)
  have hfm := fun W => fits_ok m W
  have hnm := fun W => named_ok m W
  have hbf : fitsM m = true := by unfold okM at h; simp only [Bool.and_eq_true] at h; exact h.1
  rw [hbf] at hfm
  have hq := fun W => neq_msg (namedM m) m W
  rw [decide_eq_true hnd] at hq
  obtain ⟨dd, d1, d2, d3⟩ := rowB_spec (P := Try.prog) (ty := 24) (n := 12) (by kernel_rfl)
  replace d1 := Lib.hid d1
  replace d3 := Lib.hid d3
  clear h hbf hnd
  go_enter Try.func12, Try.ntmps12
  go_wp2_with (guard_target =~ wpList _ _ _ (Oper.mk _ (Op.load _ _) _ _ _ _ :: _) _ _; refine wpList_load_arr 12 rfl rfl rfl hA (by kernel_rfl) rfl ?_)
  generalize w.alloc (.cells (mv m).toArray 24) = W0 at hA hw ⊢
  refine (hfm _).mono ?_
  rintro e w1 ⟨rfl, hb1⟩
  have hS0 : Bx w w.heap.size m w1 := (show Bx w w.heap.size m W0 from ⟨hA, hw⟩).since hb1
  clear hA hw hb1
  generalize w.heap.size = g at hS0 ⊢
  have hD : Bx w g m w1.drew := hS0.since (Below.drew (Below.refl _ _))
  go_wp2_with fail
  refine wp_region_held_drew (S := Bx w g m) (by kernel_rfl) hD (fun _ => ?_)
  refine wpAnyH_take (i := 0) (oi := Oper.mk (some 11) _ _ _ _ _) (v := ?_) rfl (by kernel_rfl) (by kernel_rfl) (by kernel_rfl) (fun _ _ _ h => h) (Or.inl ⟨by rfl, ?_⟩) hD ?_
  rotate_left
  · intro w hSw
    go_simp
    try with_reducible rfl
  simp only [Act.put, List.setIfInBounds_toArray, List.set_cons_zero, List.set_cons_succ]
  try dsimp only
  refine wpAnyH_take (i := 1) (oi := Oper.mk (some 12) _ _ _ _ _) (v := ?_) rfl (by kernel_rfl) (by kernel_rfl) (by kernel_rfl) (fun _ _ _ h => h) (Or.inl ⟨by rfl, ?_⟩) hD ?_
  rotate_left
  · intro w hSw
    go_simp
    try with_reducible rfl
  simp only [Act.put, List.setIfInBounds_toArray, List.set_cons_zero, List.set_cons_succ]
  try dsimp only
  refine wpAnyH_take (i := 2) (oi := Oper.mk (some 13) _ _ _ _ _) (v := ?_) rfl (by kernel_rfl) (by kernel_rfl) (by kernel_rfl) (fun _ _ _ h => h) (Or.inl ⟨by rfl, ?_⟩) hD ?_
  rotate_left
  · intro w hSw
    go_simp
    try with_reducible rfl
  simp only [Act.put, List.setIfInBounds_toArray, List.set_cons_zero, List.set_cons_succ]
  try dsimp only
  refine wpAnyH_take (i := 3) (oi := Oper.mk (some 14) _ _ _ _ _) (v := .agg (mv m).toArray) rfl (by kernel_rfl) (by kernel_rfl) (by kernel_rfl) (fun _ _ _ h => h) (yieldsIf_load_mid rfl _ _ rfl g 0 rfl (mv m) dd (fun w h => h.1.range) d1.out d2 (by rw [d3.out]; rfl)) hD ?_
  simp only [Act.put, List.setIfInBounds_toArray, List.set_cons_zero, List.set_cons_succ]
  try dsimp only
  refine wpAnyH_take (i := 5) (oi := Oper.mk (some 16) _ _ _ _ _) (v := .agg (mv m).toArray) rfl (by kernel_rfl) (by kernel_rfl) (by kernel_rfl) (fun _ _ _ h => h) (yieldsIf_load_mid rfl _ _ rfl g 0 rfl (mv m) dd (fun w h => h.1.range) d1.out d2 (by rw [d3.out]; rfl)) hD ?_
  simp only [Act.put, List.setIfInBounds_toArray, List.set_cons_zero, List.set_cons_succ]
  try dsimp only
  refine wpAnyH_ready (rs := [4]) (by kernel_rfl) (by simp) ?_
  refine AllReadyH.cons rfl (fun K hK => ?_) AllReadyH.nil
  go_simp
  refine (hnm _).mono ?_
  rintro e w2 ⟨rfl, hb2⟩
  have hS2 := hD.since hb2
  clear hb2
  dsimp only
  refine hK.out _ _ hS2 (fun _ => ?_)
  clear hK K
  refine wpAnyH_take (i := 6) (oi := Oper.mk (some 17) _ _ _ _ _) (v := ?_) rfl (by kernel_rfl) (by kernel_rfl) (by kernel_rfl) (fun _ _ _ h => h) (Or.inl ⟨by rfl, ?_⟩) hS2 ?_
  rotate_left
  · intro w hSw
    go_simp
    try with_reducible rfl
  simp only [Act.put, List.setIfInBounds_toArray, List.set_cons_zero, List.set_cons_succ]
  try dsimp only
  refine wpAnyH_take (i := 7) (oi := Oper.mk (some 18) _ _ _ _ _) (v := ?_) rfl (by kernel_rfl) (by kernel_rfl) (by kernel_rfl) (fun _ _ _ h => h) (Or.inl ⟨by rfl, ?_⟩) hS2 ?_
  rotate_left
  · intro w hSw
    go_simp
    try with_reducible rfl
  simp only [Act.put, List.setIfInBounds_toArray, List.set_cons_zero, List.set_cons_succ]
  try dsimp only
  refine wpAnyH_done (by kernel_rfl) ?_ _
  obtain ⟨kind, seq, role, to_, epoch, mode, cls, now, x0, x1, x2, x3⟩ := m
  simp only at hkd hseq hep hro hto hmo hcl hx0 hx1 hx2 hx3
  clear hkk hD hq hnm
  rcases hkd with rfl | rfl | rfl | rfl
  · -- kind 3
    have ho := (lit_one w2 3 (by decide)).own (base := w2.heap.size) (Nat.le_refl _)
    have hb := below_new w2 (.cells #[.int .u8 3] 5)
    have d0 := (mv_cells hS2.1).1
    obtain ⟨c0, c1, c2, c3, c4, c5, c6, c7, c8, c9, c10, c11⟩ := mv_cells (hS2.since hb).1
    obtain ⟨n, rfl⟩ : ∃ n : Nat, seq = n := ⟨seq.toNat, by omega⟩
    have hso := octs_len 4 n
    replace hso := Lib.hid hso
    go_wp2_with fail
    refine (rput_ok (n : Int) 4 n 4 _ rfl rfl (by decide) (by omega) (by omega)).mono ?_
    rintro e w4 ⟨v4, rfl, ho4, hb4⟩
    have ho3 := ho.since hb4
    have hb := hb.trans (hb4.mono hb.size)
    obtain ⟨A4, c4', rfl, hs4⟩ := ho4.seen_at hso.out
    clear ho hb4 ho4 d0 c0 c1 c2 c3 c4 c5 c6 c7 c8 c9 c10 c11
    go_wp2_with (at_builtin; refine wpList_append_own_any _ rfl _ _ rfl w2.heap.size _ [u1 3] rfl ho3 A4 4 c4' rfl (octs 4 n) hso.out hs4 (by rw [hso.out]; simp) hb.size ?_)
    intro v5 w5 ho hg5 hat5
    have ho : Own w5 w2.heap.size v5 (u1 3 :: octs 4 n) := by simpa using ho
    have hb := ho3.grew hb (Nat.le_refl _) hb.size hg5
    clear ho3 hs4 hg5 hat5
    obtain ⟨c0, c1, c2, c3, c4, c5, c6, c7, c8, c9, c10, c11⟩ := mv_cells (hS2.since hb).1
    have hw7 := hS2.2.trans (hb.mono hS2.2.size)
    have hz := hS2.2.size
    clear hS2 hb
    go_wp2
    go_ret2
    exact ⟨_, rfl, by have h := ho.mono hz; simpa [msgB] using h, hw7⟩
  · -- kind 4
    have ho := (lit_one w2 4 (by decide)).own (base := w2.heap.size) (Nat.le_refl _)
    have hb := below_new w2 (.cells #[.int .u8 4] 5)
    have d0 := (mv_cells hS2.1).1
    obtain ⟨c0, c1, c2, c3, c4, c5, c6, c7, c8, c9, c10, c11⟩ := mv_cells (hS2.since hb).1
    obtain ⟨n, rfl⟩ : ∃ n : Nat, seq = n := ⟨seq.toNat, by omega⟩
    have hso := octs_len 4 n
    replace hso := Lib.hid hso
    go_wp2_with fail
    refine (rput_ok (n : Int) 4 n 4 _ rfl rfl (by decide) (by omega) (by omega)).mono ?_
    rintro e w4 ⟨v4, rfl, ho4, hb4⟩
    have ho3 := ho.since hb4
    have hb := hb.trans (hb4.mono hb.size)
    obtain ⟨A4, c4', rfl, hs4⟩ := ho4.seen_at hso.out
    clear ho hb4 ho4 d0 c0 c1 c2 c3 c4 c5 c6 c7 c8 c9 c10 c11
    go_wp2_with (at_builtin; refine wpList_append_own_any _ rfl _ _ rfl w2.heap.size _ [u1 4] rfl ho3 A4 4 c4' rfl (octs 4 n) hso.out hs4 (by rw [hso.out]; simp) hb.size ?_)
    intro v5 w5 ho hg5 hat5
    have ho : Own w5 w2.heap.size v5 (u1 4 :: octs 4 n) := by simpa using ho
    have hb := ho3.grew hb (Nat.le_refl _) hb.size hg5
    clear ho3 hs4 hg5 hat5
    obtain ⟨c0, c1, c2, c3, c4, c5, c6, c7, c8, c9, c10, c11⟩ := mv_cells (hS2.since hb).1
    have hw7 := hS2.2.trans (hb.mono hS2.2.size)
    have hz := hS2.2.size
    clear hS2 hb
    go_wp2
    go_ret2
    exact ⟨_, rfl, by have h := ho.mono hz; simpa [msgB] using h, hw7⟩
  · -- kind 8
    have ho := (lit_one w2 8 (by decide)).own (base := w2.heap.size) (Nat.le_refl _)
    have hb := below_new w2 (.cells #[.int .u8 8] 5)
    have d0 := (mv_cells hS2.1).1
    obtain ⟨c0, c1, c2, c3, c4, c5, c6, c7, c8, c9, c10, c11⟩ := mv_cells (hS2.since hb).1
    obtain ⟨n, rfl⟩ : ∃ n : Nat, seq = n := ⟨seq.toNat, by omega⟩
    have hso := octs_len 4 n
    replace hso := Lib.hid hso
    go_wp2_with fail
    refine (rput_ok (n : Int) 4 n 4 _ rfl rfl (by decide) (by omega) (by omega)).mono ?_
    rintro e w4 ⟨v4, rfl, ho4, hb4⟩
    have ho3 := ho.since hb4
    have hb := hb.trans (hb4.mono hb.size)
    obtain ⟨A4, c4', rfl, hs4⟩ := ho4.seen_at hso.out
    clear ho hb4 ho4 d0 c0 c1 c2 c3 c4 c5 c6 c7 c8 c9 c10 c11
    go_wp2_with (at_builtin; refine wpList_append_own_any _ rfl _ _ rfl w2.heap.size _ [u1 8] rfl ho3 A4 4 c4' rfl (octs 4 n) hso.out hs4 (by rw [hso.out]; simp) hb.size ?_)
    intro v5 w5 ho hg5 hat5
    have ho : Own w5 w2.heap.size v5 (u1 8 :: octs 4 n) := by simpa using ho
    have hb := ho3.grew hb (Nat.le_refl _) hb.size hg5
    clear ho3 hs4 hg5 hat5
    obtain ⟨c0, c1, c2, c3, c4, c5, c6, c7, c8, c9, c10, c11⟩ := mv_cells (hS2.since hb).1
    have hw7 := hS2.2.trans (hb.mono hS2.2.size)
    have hz := hS2.2.size
    clear hS2 hb
    go_wp2
    go_ret2
    exact ⟨_, rfl, by have h := ho.mono hz; simpa [msgB] using h, hw7⟩
  · -- kind 9
    have ho := (lit_one w2 9 (by decide)).own (base := w2.heap.size) (Nat.le_refl _)
    have hb := below_new w2 (.cells #[.int .u8 9] 5)
    have d0 := (mv_cells hS2.1).1
    obtain ⟨c0, c1, c2, c3, c4, c5, c6, c7, c8, c9, c10, c11⟩ := mv_cells (hS2.since hb).1
    obtain ⟨n, rfl⟩ : ∃ n : Nat, seq = n := ⟨seq.toNat, by omega⟩
    have hso := octs_len 4 n
    replace hso := Lib.hid hso
    go_wp2_with fail
    refine (rput_ok (n : Int) 4 n 4 _ rfl rfl (by decide) (by omega) (by omega)).mono ?_
    rintro e w4 ⟨v4, rfl, ho4, hb4⟩
    have ho3 := ho.since hb4
    have hb := hb.trans (hb4.mono hb.size)
    obtain ⟨A4, c4', rfl, hs4⟩ := ho4.seen_at hso.out
    clear ho hb4 ho4 d0 c0 c1 c2 c3 c4 c5 c6 c7 c8 c9 c10 c11
    go_wp2_with (at_builtin; refine wpList_append_own_any _ rfl _ _ rfl w2.heap.size _ [u1 9] rfl ho3 A4 4 c4' rfl (octs 4 n) hso.out hs4 (by rw [hso.out]; simp) hb.size ?_)
    intro v5 w5 ho hg5 hat5
    have ho : Own w5 w2.heap.size v5 (u1 9 :: octs 4 n) := by simpa using ho
    have hb := ho3.grew hb (Nat.le_refl _) hb.size hg5
    clear ho3 hs4 hg5 hat5
    obtain ⟨c0, c1, c2, c3, c4, c5, c6, c7, c8, c9, c10, c11⟩ := mv_cells (hS2.since hb).1
    have hw7 := hS2.2.trans (hb.mono hS2.2.size)
    have hz := hS2.2.size
    clear hS2 hb
    go_wp2
    go_ret2
    exact ⟨_, rfl, by have h := ho.mono hz; simpa [msgB] using h, hw7⟩
set_option maxRecDepth 100000 in
set_option maxHeartbeats 4000000 in
theorem refPut_5 (m : M) (w : World) (h : okM m = true) (hkd : m.kind = 5) : Calls Try.prog 12 #[.agg (mv m).toArray] w fun e w' => ∃ v, e = .returned (.tuple #[v, .int .i64 0]) ∧ Own w' w.heap.size v (msgB m) ∧ Below w.heap.size w w' := by
  obtain ⟨hnd, hkk, hseq, hep, hro, hto, hmo, hcl, hx0, hx1, hx2, hx3⟩ := okM_parts h
  have hA := Arr.new w (mv m) 24
  have hw := below_new w (.cells (mv m).toArray 24)
  have hfm := fun W => fits_ok m W
  have hnm := fun W => named_ok m W
  have hbf : fitsM m = true := by unfold okM at h; simp only [Bool.and_eq_true] at h; exact h.1
  rw [hbf] at hfm
  have hq := fun W => neq_msg (namedM m) m W
  rw [decide_eq_true hnd] at hq
  obtain ⟨dd, d1, d2, d3⟩ := rowB_spec (P := Try.prog) (ty := 24) (n := 12) (by kernel_rfl)
  replace d1 := Lib.hid d1
  replace d3 := Lib.hid d3
  clear h hbf hnd
  go_enter Try.func12, Try.ntmps12
  go_wp2_with (guard_target =~ wpList _ _ _ (Oper.mk _ (Op.load _ _) _ _ _ _ :: _) _ _; refine wpList_load_arr 12 rfl rfl rfl hA (by kernel_rfl) rfl ?_)
  generalize w.alloc (.cells (mv m).toArray 24) = W0 at hA hw ⊢
  refine (hfm _).mono ?_
  rintro e w1 ⟨rfl, hb1⟩
  have hS0 : Bx w w.heap.size m w1 := (show Bx w w.heap.size m W0 from ⟨hA, hw⟩).since hb1
  clear hA hw hb1
  generalize w.heap.size = g at hS0 ⊢
  have hD : Bx w g m w1.drew := hS0.since (Below.drew (Below.refl _ _))
  go_wp2_with fail
  refine wp_region_held_drew (S := Bx w g m) (by kernel_rfl) hD (fun _ => ?_)
  refine wpAnyH_take (i := 0) (oi := Oper.mk (some 11) _ _ _ _ _) (v := ?_) rfl (by kernel_rfl) (by kernel_rfl) (by kernel_rfl) (fun _ _ _ h => h) (Or.inl ⟨by rfl, ?_⟩) hD ?_
  rotate_left
  · intro w hSw
    go_simp
    try with_reducible rfl
  simp only [Act.put, List.setIfInBounds_toArray, List.set_cons_zero, List.set_cons_succ]
  try dsimp only
  refine wpAnyH_take (i := 1) (oi := Oper.mk (some 12) _ _ _ _ _) (v := ?_) rfl (by kernel_rfl) (by kernel_rfl) (by kernel_rfl) (fun _ _ _ h => h) (Or.inl ⟨by rfl, ?_⟩) hD ?_
  rotate_left
  · intro w hSw
    go_simp
    try with_reducible rfl
  simp only [Act.put, List.setIfInBounds_toArray, List.set_cons_zero, List.set_cons_succ]
  try dsimp only
  refine wpAnyH_take (i := 2) (oi := Oper.mk (some 13) _ _ _ _ _) (v := ?_) rfl (by kernel_rfl) (by kernel_rfl) (by kernel_rfl) (fun _ _ _ h => h) (Or.inl ⟨by rfl, ?_⟩) hD ?_
  rotate_left
  · intro w hSw
    go_simp
    try with_reducible rfl
  simp only [Act.put, List.setIfInBounds_toArray, List.set_cons_zero, List.set_cons_succ]
  try dsimp only
  refine wpAnyH_take (i := 3) (oi := Oper.mk (some 14) _ _ _ _ _) (v := .agg (mv m).toArray) rfl (by kernel_rfl) (by kernel_rfl) (by kernel_rfl) (fun _ _ _ h => h) (yieldsIf_load_mid rfl _ _ rfl g 0 rfl (mv m) dd (fun w h => h.1.range) d1.out d2 (by rw [d3.out]; rfl)) hD ?_
  simp only [Act.put, List.setIfInBounds_toArray, List.set_cons_zero, List.set_cons_succ]
  try dsimp only
  refine wpAnyH_take (i := 5) (oi := Oper.mk (some 16) _ _ _ _ _) (v := .agg (mv m).toArray) rfl (by kernel_rfl) (by kernel_rfl) (by kernel_rfl) (fun _ _ _ h => h) (yieldsIf_load_mid rfl _ _ rfl g 0 rfl (mv m) dd (fun w h => h.1.range) d1.out d2 (by rw [d3.out]; rfl)) hD ?_
  simp only [Act.put, List.setIfInBounds_toArray, List.set_cons_zero, List.set_cons_succ]
  try dsimp only
  refine wpAnyH_ready (rs := [4]) (by kernel_rfl) (by simp) ?_
  refine AllReadyH.cons rfl (fun K hK => ?_) AllReadyH.nil
  go_simp
  refine (hnm _).mono ?_
  rintro e w2 ⟨rfl, hb2⟩
  have hS2 := hD.since hb2
  clear hb2
  dsimp only
  refine hK.out _ _ hS2 (fun _ => ?_)
  clear hK K
  refine wpAnyH_take (i := 6) (oi := Oper.mk (some 17) _ _ _ _ _) (v := ?_) rfl (by kernel_rfl) (by kernel_rfl) (by kernel_rfl) (fun _ _ _ h => h) (Or.inl ⟨by rfl, ?_⟩) hS2 ?_
  rotate_left
  · intro w hSw
    go_simp
    try with_reducible rfl
  simp only [Act.put, List.setIfInBounds_toArray, List.set_cons_zero, List.set_cons_succ]
  try dsimp only
  refine wpAnyH_take (i := 7) (oi := Oper.mk (some 18) _ _ _ _ _) (v := ?_) rfl (by kernel_rfl) (by kernel_rfl) (by kernel_rfl) (fun _ _ _ h => h) (Or.inl ⟨by rfl, ?_⟩) hS2 ?_
  rotate_left
  · intro w hSw
    go_simp
    try with_reducible rfl
  simp only [Act.put, List.setIfInBounds_toArray, List.set_cons_zero, List.set_cons_succ]
  try dsimp only
  refine wpAnyH_done (by kernel_rfl) ?_ _
  obtain ⟨kind, seq, role, to_, epoch, mode, cls, now, x0, x1, x2, x3⟩ := m
  simp only at hkd hseq hep hro hto hmo hcl hx0 hx1 hx2 hx3
  clear hkk hD hq hnm
  obtain rfl := hkd
  · -- kind 5
    have ho := (lit_one w2 5 (by decide)).own (base := w2.heap.size) (Nat.le_refl _)
    have hb := below_new w2 (.cells #[.int .u8 5] 5)
    have d0 := (mv_cells hS2.1).1
    obtain ⟨c0, c1, c2, c3, c4, c5, c6, c7, c8, c9, c10, c11⟩ := mv_cells (hS2.since hb).1
    obtain ⟨n, rfl⟩ : ∃ n : Nat, seq = n := ⟨seq.toNat, by omega⟩
    have hso := octs_len 4 n
    replace hso := Lib.hid hso
    go_wp2_with fail
    refine (rput_ok (n : Int) 4 n 4 _ rfl rfl (by decide) (by omega) (by omega)).mono ?_
    rintro e w4 ⟨v4, rfl, ho4, hb4⟩
    have ho3 := ho.since hb4
    have hb := hb.trans (hb4.mono hb.size)
    obtain ⟨A4, c4', rfl, hs4⟩ := ho4.seen_at hso.out
    clear ho hb4 ho4 d0 c0 c1 c2 c3 c4 c5 c6 c7 c8 c9 c10 c11
    go_wp2_with (at_builtin; refine wpList_append_own_any _ rfl _ _ rfl w2.heap.size _ [u1 5] rfl ho3 A4 4 c4' rfl (octs 4 n) hso.out hs4 (by rw [hso.out]; simp) hb.size ?_)
    intro v5 w5 ho hg5 hat5
    have ho : Own w5 w2.heap.size v5 (u1 5 :: octs 4 n) := by simpa using ho
    have hb := ho3.grew hb (Nat.le_refl _) hb.size hg5
    clear ho3 hs4 hg5 hat5
    obtain ⟨c0, c1, c2, c3, c4, c5, c6, c7, c8, c9, c10, c11⟩ := mv_cells (hS2.since hb).1
    cases now
    · have hr := (lit_one w5 0 (by decide)).seen
      have ho' := ho.alloc (.cells #[.int .u8 0] 5)
      have hb' := hb.alloc hb.size (.cells #[.int .u8 0] 5)
      go_wp2_with (at_builtin; refine wpList_append_own_any _ rfl _ _ rfl w2.heap.size _ (u1 5 :: octs 4 n) rfl ho' _ 1 1 rfl [u1 0] rfl hr (by rw [List.length_cons, hso.out]; simp) hb'.size ?_)
      intro v7 w7 ho7 hg7 hat7
      have hb7 := ho'.grew hb' (Nat.le_refl _) hb'.size hg7
      have hw7 := hS2.2.trans (hb7.mono hS2.2.size)
      have hz := hS2.2.size
      clear ho hr ho' hb hb' hg7 hat7 c0 c1 c2 c3 c4 c5 c6 c7 c8 c9 c10 c11 hS2 hb7
      go_wp2
      go_ret2
      exact ⟨_, rfl, by have h := ho7.mono hz; simpa [msgB, u1] using h, hw7⟩
    · have hr := (lit_one w5 1 (by decide)).seen
      have ho' := ho.alloc (.cells #[.int .u8 1] 5)
      have hb' := hb.alloc hb.size (.cells #[.int .u8 1] 5)
      go_wp2_with (at_builtin; refine wpList_append_own_any _ rfl _ _ rfl w2.heap.size _ (u1 5 :: octs 4 n) rfl ho' _ 1 1 rfl [u1 1] rfl hr (by rw [List.length_cons, hso.out]; simp) hb'.size ?_)
      intro v7 w7 ho7 hg7 hat7
      have hb7 := ho'.grew hb' (Nat.le_refl _) hb'.size hg7
      have hw7 := hS2.2.trans (hb7.mono hS2.2.size)
      have hz := hS2.2.size
      clear ho hr ho' hb hb' hg7 hat7 c0 c1 c2 c3 c4 c5 c6 c7 c8 c9 c10 c11 hS2 hb7
      go_wp2
      go_ret2
      exact ⟨_, rfl, by have h := ho7.mono hz; simpa [msgB, u1] using h, hw7⟩
set_option maxRecDepth 100000 in
set_option maxHeartbeats 4000000 in
theorem refPut_6 (m : M) (w : World) (h : okM m = true) (hkd : m.kind = 6) : Calls Try.prog 12 #[.agg (mv m).toArray] w fun e w' => ∃ v, e = .returned (.tuple #[v, .int .i64 0]) ∧ Own w' w.heap.size v (msgB m) ∧ Below w.heap.size w w' := by
  obtain ⟨hnd, hkk, hseq, hep, hro, hto, hmo, hcl, hx0, hx1, hx2, hx3⟩ := okM_parts h
  have hA := Arr.new w (mv m) 24
  have hw := below_new w (.cells (mv m).toArray 24)
  have hfm := fun W => fits_ok m W
  have hnm := fun W => named_ok m W
  have hbf : fitsM m = true := by unfold okM at h; simp only [Bool.and_eq_true] at h; exact h.1
  rw [hbf] at hfm
  have hq := fun W => neq_msg (namedM m) m W
  rw [decide_eq_true hnd] at hq
  obtain ⟨dd, d1, d2, d3⟩ := rowB_spec (P := Try.prog) (ty := 24) (n := 12) (by kernel_rfl)
  replace d1 := Lib.hid d1
  replace d3 := Lib.hid d3
  clear h hbf hnd
  go_enter Try.func12, Try.ntmps12
  go_wp2_with (guard_target =~ wpList _ _ _ (Oper.mk _ (Op.load _ _) _ _ _ _ :: _) _ _; refine wpList_load_arr 12 rfl rfl rfl hA (by kernel_rfl) rfl ?_)
  generalize w.alloc (.cells (mv m).toArray 24) = W0 at hA hw ⊢
  refine (hfm _).mono ?_
  rintro e w1 ⟨rfl, hb1⟩
  have hS0 : Bx w w.heap.size m w1 := (show Bx w w.heap.size m W0 from ⟨hA, hw⟩).since hb1
  clear hA hw hb1
  generalize w.heap.size = g at hS0 ⊢
  have hD : Bx w g m w1.drew := hS0.since (Below.drew (Below.refl _ _))
  go_wp2_with fail
  refine wp_region_held_drew (S := Bx w g m) (by kernel_rfl) hD (fun _ => ?_)
  refine wpAnyH_take (i := 0) (oi := Oper.mk (some 11) _ _ _ _ _) (v := ?_) rfl (by kernel_rfl) (by kernel_rfl) (by kernel_rfl) (fun _ _ _ h => h) (Or.inl ⟨by rfl, ?_⟩) hD ?_
  rotate_left
  · intro w hSw
    go_simp
    try with_reducible rfl
  simp only [Act.put, List.setIfInBounds_toArray, List.set_cons_zero, List.set_cons_succ]
  try dsimp only
  refine wpAnyH_take (i := 1) (oi := Oper.mk (some 12) _ _ _ _ _) (v := ?_) rfl (by kernel_rfl) (by kernel_rfl) (by kernel_rfl) (fun _ _ _ h => h) (Or.inl ⟨by rfl, ?_⟩) hD ?_
  rotate_left
  · intro w hSw
    go_simp
    try with_reducible rfl
  simp only [Act.put, List.setIfInBounds_toArray, List.set_cons_zero, List.set_cons_succ]
  try dsimp only
  refine wpAnyH_take (i := 2) (oi := Oper.mk (some 13) _ _ _ _ _) (v := ?_) rfl (by kernel_rfl) (by kernel_rfl) (by kernel_rfl) (fun _ _ _ h => h) (Or.inl ⟨by rfl, ?_⟩) hD ?_
  rotate_left
  · intro w hSw
    go_simp
    try with_reducible rfl
  simp only [Act.put, List.setIfInBounds_toArray, List.set_cons_zero, List.set_cons_succ]
  try dsimp only
  refine wpAnyH_take (i := 3) (oi := Oper.mk (some 14) _ _ _ _ _) (v := .agg (mv m).toArray) rfl (by kernel_rfl) (by kernel_rfl) (by kernel_rfl) (fun _ _ _ h => h) (yieldsIf_load_mid rfl _ _ rfl g 0 rfl (mv m) dd (fun w h => h.1.range) d1.out d2 (by rw [d3.out]; rfl)) hD ?_
  simp only [Act.put, List.setIfInBounds_toArray, List.set_cons_zero, List.set_cons_succ]
  try dsimp only
  refine wpAnyH_take (i := 5) (oi := Oper.mk (some 16) _ _ _ _ _) (v := .agg (mv m).toArray) rfl (by kernel_rfl) (by kernel_rfl) (by kernel_rfl) (fun _ _ _ h => h) (yieldsIf_load_mid rfl _ _ rfl g 0 rfl (mv m) dd (fun w h => h.1.range) d1.out d2 (by rw [d3.out]; rfl)) hD ?_
  simp only [Act.put, List.setIfInBounds_toArray, List.set_cons_zero, List.set_cons_succ]
  try dsimp only
  refine wpAnyH_ready (rs := [4]) (by kernel_rfl) (by simp) ?_
  refine AllReadyH.cons rfl (fun K hK => ?_) AllReadyH.nil
  go_simp
  refine (hnm _).mono ?_
  rintro e w2 ⟨rfl, hb2⟩
  have hS2 := hD.since hb2
  clear hb2
  dsimp only
  refine hK.out _ _ hS2 (fun _ => ?_)
  clear hK K
  refine wpAnyH_take (i := 6) (oi := Oper.mk (some 17) _ _ _ _ _) (v := ?_) rfl (by kernel_rfl) (by kernel_rfl) (by kernel_rfl) (fun _ _ _ h => h) (Or.inl ⟨by rfl, ?_⟩) hS2 ?_
  rotate_left
  · intro w hSw
    go_simp
    try with_reducible rfl
  simp only [Act.put, List.setIfInBounds_toArray, List.set_cons_zero, List.set_cons_succ]
  try dsimp only
  refine wpAnyH_take (i := 7) (oi := Oper.mk (some 18) _ _ _ _ _) (v := ?_) rfl (by kernel_rfl) (by kernel_rfl) (by kernel_rfl) (fun _ _ _ h => h) (Or.inl ⟨by rfl, ?_⟩) hS2 ?_
  rotate_left
  · intro w hSw
    go_simp
    try with_reducible rfl
  simp only [Act.put, List.setIfInBounds_toArray, List.set_cons_zero, List.set_cons_succ]
  try dsimp only
  refine wpAnyH_done (by kernel_rfl) ?_ _
  obtain ⟨kind, seq, role, to_, epoch, mode, cls, now, x0, x1, x2, x3⟩ := m
  simp only at hkd hseq hep hro hto hmo hcl hx0 hx1 hx2 hx3
  clear hkk hD hq hnm
  obtain rfl := hkd
  · -- kind 6
    have ho := (lit_one w2 6 (by decide)).own (base := w2.heap.size) (Nat.le_refl _)
    have hb := below_new w2 (.cells #[.int .u8 6] 5)
    have d0 := (mv_cells hS2.1).1
    obtain ⟨c0, c1, c2, c3, c4, c5, c6, c7, c8, c9, c10, c11⟩ := mv_cells (hS2.since hb).1
    obtain ⟨n, rfl⟩ : ∃ n : Nat, seq = n := ⟨seq.toNat, by omega⟩
    have hso := octs_len 4 n
    replace hso := Lib.hid hso
    go_wp2_with fail
    refine (rput_ok (n : Int) 4 n 4 _ rfl rfl (by decide) (by omega) (by omega)).mono ?_
    rintro e w4 ⟨v4, rfl, ho4, hb4⟩
    have ho3 := ho.since hb4
    have hb := hb.trans (hb4.mono hb.size)
    obtain ⟨A4, c4', rfl, hs4⟩ := ho4.seen_at hso.out
    clear ho hb4 ho4 d0 c0 c1 c2 c3 c4 c5 c6 c7 c8 c9 c10 c11
    go_wp2_with (at_builtin; refine wpList_append_own_any _ rfl _ _ rfl w2.heap.size _ [u1 6] rfl ho3 A4 4 c4' rfl (octs 4 n) hso.out hs4 (by rw [hso.out]; simp) hb.size ?_)
    intro v5 w5 ho hg5 hat5
    have ho : Own w5 w2.heap.size v5 (u1 6 :: octs 4 n) := by simpa using ho
    have hb := ho3.grew hb (Nat.le_refl _) hb.size hg5
    clear ho3 hs4 hg5 hat5
    obtain ⟨c0, c1, c2, c3, c4, c5, c6, c7, c8, c9, c10, c11⟩ := mv_cells (hS2.since hb).1
    have hr := (lit_one w5 to_ (by omega)).seen
    have ho' := ho.alloc (.cells #[.int .u8 to_] 5)
    have hb' := hb.alloc hb.size (.cells #[.int .u8 to_] 5)
    go_wp2_with (at_builtin; refine wpList_append_own_any _ rfl _ _ rfl w2.heap.size _ (u1 6 :: octs 4 n) rfl ho' _ 1 1 rfl [u1 to_] rfl hr (by rw [List.length_cons, hso.out]; simp) hb'.size ?_)
    intro v7 w7 ho7 hg7 hat7
    have hb7 := ho'.grew hb' (Nat.le_refl _) hb'.size hg7
    have hw7 := hS2.2.trans (hb7.mono hS2.2.size)
    have hz := hS2.2.size
    clear ho hr ho' hb hb' hg7 hat7 c0 c1 c2 c3 c4 c5 c6 c7 c8 c9 c10 c11 hS2 hb7
    go_wp2
    go_ret2
    exact ⟨_, rfl, by have h := ho7.mono hz; simpa [msgB] using h, hw7⟩
set_option maxRecDepth 100000 in
set_option maxHeartbeats 4000000 in
theorem refPut_7 (m : M) (w : World) (h : okM m = true) (hkd : m.kind = 7) : Calls Try.prog 12 #[.agg (mv m).toArray] w fun e w' => ∃ v, e = .returned (.tuple #[v, .int .i64 0]) ∧ Own w' w.heap.size v (msgB m) ∧ Below w.heap.size w w' := by
  obtain ⟨hnd, hkk, hseq, hep, hro, hto, hmo, hcl, hx0, hx1, hx2, hx3⟩ := okM_parts h
  have hA := Arr.new w (mv m) 24
  have hw := below_new w (.cells (mv m).toArray 24)
  have hfm := fun W => fits_ok m W
  have hnm := fun W => named_ok m W
  have hbf : fitsM m = true := by unfold okM at h; simp only [Bool.and_eq_true] at h; exact h.1
  rw [hbf] at hfm
  have hq := fun W => neq_msg (namedM m) m W
  rw [decide_eq_true hnd] at hq
  obtain ⟨dd, d1, d2, d3⟩ := rowB_spec (P := Try.prog) (ty := 24) (n := 12) (by kernel_rfl)
  replace d1 := Lib.hid d1
  replace d3 := Lib.hid d3
  clear h hbf hnd
  go_enter Try.func12, Try.ntmps12
  go_wp2_with (guard_target =~ wpList _ _ _ (Oper.mk _ (Op.load _ _) _ _ _ _ :: _) _ _; refine wpList_load_arr 12 rfl rfl rfl hA (by kernel_rfl) rfl ?_)
  generalize w.alloc (.cells (mv m).toArray 24) = W0 at hA hw ⊢
  refine (hfm _).mono ?_
  rintro e w1 ⟨rfl, hb1⟩
  have hS0 : Bx w w.heap.size m w1 := (show Bx w w.heap.size m W0 from ⟨hA, hw⟩).since hb1
  clear hA hw hb1
  generalize w.heap.size = g at hS0 ⊢
  have hD : Bx w g m w1.drew := hS0.since (Below.drew (Below.refl _ _))
  go_wp2_with fail
  refine wp_region_held_drew (S := Bx w g m) (by kernel_rfl) hD (fun _ => ?_)
  refine wpAnyH_take (i := 0) (oi := Oper.mk (some 11) _ _ _ _ _) (v := ?_) rfl (by kernel_rfl) (by kernel_rfl) (by kernel_rfl) (fun _ _ _ h => h) (Or.inl ⟨by rfl, ?_⟩) hD ?_
  rotate_left
  · intro w hSw
    go_simp
    try with_reducible rfl
  simp only [Act.put, List.setIfInBounds_toArray, List.set_cons_zero, List.set_cons_succ]
  try dsimp only
  refine wpAnyH_take (i := 1) (oi := Oper.mk (some 12) _ _ _ _ _) (v := ?_) rfl (by kernel_rfl) (by kernel_rfl) (by kernel_rfl) (fun _ _ _ h => h) (Or.inl ⟨by rfl, ?_⟩) hD ?_
  rotate_left
  · intro w hSw
    go_simp
    try with_reducible rfl
  simp only [Act.put, List.setIfInBounds_toArray, List.set_cons_zero, List.set_cons_succ]
  try dsimp only
  refine wpAnyH_take (i := 2) (oi := Oper.mk (some 13) _ _ _ _ _) (v := ?_) rfl (by kernel_rfl) (by kernel_rfl) (by kernel_rfl) (fun _ _ _ h => h) (Or.inl ⟨by rfl, ?_⟩) hD ?_
  rotate_left
  · intro w hSw
    go_simp
    try with_reducible rfl
  simp only [Act.put, List.setIfInBounds_toArray, List.set_cons_zero, List.set_cons_succ]
  try dsimp only
  refine wpAnyH_take (i := 3) (oi := Oper.mk (some 14) _ _ _ _ _) (v := .agg (mv m).toArray) rfl (by kernel_rfl) (by kernel_rfl) (by kernel_rfl) (fun _ _ _ h => h) (yieldsIf_load_mid rfl _ _ rfl g 0 rfl (mv m) dd (fun w h => h.1.range) d1.out d2 (by rw [d3.out]; rfl)) hD ?_
  simp only [Act.put, List.setIfInBounds_toArray, List.set_cons_zero, List.set_cons_succ]
  try dsimp only
  refine wpAnyH_take (i := 5) (oi := Oper.mk (some 16) _ _ _ _ _) (v := .agg (mv m).toArray) rfl (by kernel_rfl) (by kernel_rfl) (by kernel_rfl) (fun _ _ _ h => h) (yieldsIf_load_mid rfl _ _ rfl g 0 rfl (mv m) dd (fun w h => h.1.range) d1.out d2 (by rw [d3.out]; rfl)) hD ?_
  simp only [Act.put, List.setIfInBounds_toArray, List.set_cons_zero, List.set_cons_succ]
  try dsimp only
  refine wpAnyH_ready (rs := [4]) (by kernel_rfl) (by simp) ?_
  refine AllReadyH.cons rfl (fun K hK => ?_) AllReadyH.nil
  go_simp
  refine (hnm _).mono ?_
  rintro e w2 ⟨rfl, hb2⟩
  have hS2 := hD.since hb2
  clear hb2
  dsimp only
  refine hK.out _ _ hS2 (fun _ => ?_)
  clear hK K
  refine wpAnyH_take (i := 6) (oi := Oper.mk (some 17) _ _ _ _ _) (v := ?_) rfl (by kernel_rfl) (by kernel_rfl) (by kernel_rfl) (fun _ _ _ h => h) (Or.inl ⟨by rfl, ?_⟩) hS2 ?_
  rotate_left
  · intro w hSw
    go_simp
    try with_reducible rfl
  simp only [Act.put, List.setIfInBounds_toArray, List.set_cons_zero, List.set_cons_succ]
  try dsimp only
  refine wpAnyH_take (i := 7) (oi := Oper.mk (some 18) _ _ _ _ _) (v := ?_) rfl (by kernel_rfl) (by kernel_rfl) (by kernel_rfl) (fun _ _ _ h => h) (Or.inl ⟨by rfl, ?_⟩) hS2 ?_
  rotate_left
  · intro w hSw
    go_simp
    try with_reducible rfl
  simp only [Act.put, List.setIfInBounds_toArray, List.set_cons_zero, List.set_cons_succ]
  try dsimp only
  refine wpAnyH_done (by kernel_rfl) ?_ _
  obtain ⟨kind, seq, role, to_, epoch, mode, cls, now, x0, x1, x2, x3⟩ := m
  simp only at hkd hseq hep hro hto hmo hcl hx0 hx1 hx2 hx3
  clear hkk hD hq hnm
  obtain rfl := hkd
  · -- kind 7
    have ho := (lit_one w2 7 (by decide)).own (base := w2.heap.size) (Nat.le_refl _)
    have hb := below_new w2 (.cells #[.int .u8 7] 5)
    have d0 := (mv_cells hS2.1).1
    obtain ⟨c0, c1, c2, c3, c4, c5, c6, c7, c8, c9, c10, c11⟩ := mv_cells (hS2.since hb).1
    obtain ⟨n, rfl⟩ : ∃ n : Nat, seq = n := ⟨seq.toNat, by omega⟩
    have hso := octs_len 4 n
    replace hso := Lib.hid hso
    go_wp2_with fail
    refine (rput_ok (n : Int) 4 n 4 _ rfl rfl (by decide) (by omega) (by omega)).mono ?_
    rintro e w4 ⟨v4, rfl, ho4, hb4⟩
    have ho3 := ho.since hb4
    have hb := hb.trans (hb4.mono hb.size)
    obtain ⟨A4, c4', rfl, hs4⟩ := ho4.seen_at hso.out
    clear ho hb4 ho4 d0 c0 c1 c2 c3 c4 c5 c6 c7 c8 c9 c10 c11
    go_wp2_with (at_builtin; refine wpList_append_own_any _ rfl _ _ rfl w2.heap.size _ [u1 7] rfl ho3 A4 4 c4' rfl (octs 4 n) hso.out hs4 (by rw [hso.out]; simp) hb.size ?_)
    intro v5 w5 ho hg5 hat5
    have ho : Own w5 w2.heap.size v5 (u1 7 :: octs 4 n) := by simpa using ho
    have hb := ho3.grew hb (Nat.le_refl _) hb.size hg5
    clear ho3 hs4 hg5 hat5
    obtain ⟨c0, c1, c2, c3, c4, c5, c6, c7, c8, c9, c10, c11⟩ := mv_cells (hS2.since hb).1
    obtain ⟨m2, rfl⟩ : ∃ m2 : Nat, epoch = m2 := ⟨epoch.toNat, by omega⟩
    have heo := octs_len 2 m2
    replace heo := Lib.hid heo
    go_wp2_with fail
    refine (rput_ok (m2 : Int) 2 m2 2 _ rfl rfl (by decide) (by omega) (by omega)).mono ?_
    rintro e w6 ⟨v6, rfl, ho6, hb6⟩
    have ho5 := ho.since hb6
    have hb := hb.trans (hb6.mono hb.size)
    obtain ⟨A6, c6', rfl, hs6⟩ := ho6.seen_at heo.out
    clear ho hb6 ho6 c0 c1 c2 c3 c4 c5 c6 c7 c8 c9 c10 c11
    go_wp2_with (at_builtin; refine wpList_append_own_any _ rfl _ _ rfl w2.heap.size _ (u1 7 :: octs 4 n) rfl ho5 A6 2 c6' rfl (octs 2 m2) heo.out hs6 (by rw [List.length_cons, hso.out, heo.out]; decide) hb.size ?_)
    intro v7 w7 ho hg7 hat7
    have hb := ho5.grew hb (Nat.le_refl _) hb.size hg7
    clear ho5 hs6 hg7 hat7
    have hw7 := hS2.2.trans (hb.mono hS2.2.size)
    have hz := hS2.2.size
    clear hS2 hb
    go_wp2
    go_ret2
    exact ⟨_, rfl, by have h := ho.mono hz; simpa [msgB] using h, hw7⟩
end Go.Proofs.Ytmibgmcgicphoaa.msg
