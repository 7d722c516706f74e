/-
  CONTRACT OF msg's reference: Put, at the kinds 10 and 11. (Written by program: wip/tools/gen_msg_refput2.py.)
-/
import Derived.Test.YtmibgmcgicphoaaMsgRefPutA
namespace Go.Proofs.Ytmibgmcgicphoaa.msg
open Go.RowKit Go.Proofs.Ytmibgmcgicphoaa.octets Go.Proofs.Ytmibgmcgicphoaa.pack
set_option linter.unusedVariables false
set_option linter.unusedSimpArgs false

set_option maxRecDepth 100000 in
set_option maxHeartbeats 4000000 in
theorem refPut_10 (m : M) (w : World) (h : okM m = true) (hkd : m.kind = 10) : Calls Try.prog 12 #[.agg (mv m).toArray] w fun e w' => ∃ v, e = .returned (.tuple #[v, .int .i64 0]) ∧ Own w' w.heap.size v (msgB m) ∧ Below w.heap.size w w' := by
  obtain ⟨hnd, hkk, hseq, hep, hro, hto, hmo, hcl, hx0, hx1, hx2, hx3⟩ := okM_parts h
  have hA := Arr.new w (mv m) 24
  have hw := below_new w (.cells (mv m).toArray 24)
  have hfm := fun W => fits_ok m W
  have hnm := fun W => named_ok m W
  have hbf : fitsM m = true := by unfold okM at h; simp only [Bool.and_eq_true] at h; exact h.1
  rw [hbf] at hfm
  have hq := fun W => neq_msg (namedM m) m W
  rw [decide_eq_true hnd] at hq
  obtain ⟨dd, d1, d2, d3⟩ := rowB_spec (P := Try.prog) (ty := 24) (n := 12) (by kernel_rfl)
  replace d1 := Lib.hid d1
  replace d3 := Lib.hid d3
  clear h hbf hnd
  go_enter Try.func12, Try.ntmps12
  go_wp2_with (guard_target =~ wpList _ _ _ (Oper.mk _ (Op.load _ _) _ _ _ _ :: _) _ _; refine wpList_load_arr 12 rfl rfl rfl hA (by kernel_rfl) rfl ?_)
  generalize w.alloc (.cells (mv m).toArray 24) = W0 at hA hw ⊢
  refine (hfm _).mono ?_
  rintro e w1 ⟨rfl, hb1⟩
  have hS0 : Bx w w.heap.size m w1 := (show Bx w w.heap.size m W0 from ⟨hA, hw⟩).since hb1
  clear hA hw hb1
  generalize w.heap.size = g at hS0 ⊢
  have hD : Bx w g m w1.drew := hS0.since (Below.drew (Below.refl _ _))
  go_wp2_with fail
  refine wp_region_held_drew (S := Bx w g m) (by kernel_rfl) hD (fun _ => ?_)
  refine wpAnyH_take (i := 0) (oi := Oper.mk (some 11) _ _ _ _ _) (v := ?_) rfl (by kernel_rfl) (by kernel_rfl) (by kernel_rfl) (fun _ _ _ h => h) (Or.inl ⟨by rfl, ?_⟩) hD ?_
  rotate_left
  · intro w hSw
    go_simp
    try with_reducible rfl
  simp only [Act.put, List.setIfInBounds_toArray, List.set_cons_zero, List.set_cons_succ]
  try dsimp only
  refine wpAnyH_take (i := 1) (oi := Oper.mk (some 12) _ _ _ _ _) (v := ?_) rfl (by kernel_rfl) (by kernel_rfl) (by kernel_rfl) (fun _ _ _ h => h) (Or.inl ⟨by rfl, ?_⟩) hD ?_
  rotate_left
  · intro w hSw
    go_simp
    try with_reducible rfl
  simp only [Act.put, List.setIfInBounds_toArray, List.set_cons_zero, List.set_cons_succ]
  try dsimp only
  refine wpAnyH_take (i := 2) (oi := Oper.mk (some 13) _ _ _ _ _) (v := ?_) rfl (by kernel_rfl) (by kernel_rfl) (by kernel_rfl) (fun _ _ _ h => h) (Or.inl ⟨by rfl, ?_⟩) hD ?_
  rotate_left
  · intro w hSw
    go_simp
    try with_reducible rfl
  simp only [Act.put, List.setIfInBounds_toArray, List.set_cons_zero, List.set_cons_succ]
  try dsimp only
  refine wpAnyH_take (i := 3) (oi := Oper.mk (some 14) _ _ _ _ _) (v := .agg (mv m).toArray) rfl (by kernel_rfl) (by kernel_rfl) (by kernel_rfl) (fun _ _ _ h => h) (yieldsIf_load_mid rfl _ _ rfl g 0 rfl (mv m) dd (fun w h => h.1.range) d1.out d2 (by rw [d3.out]; rfl)) hD ?_
  simp only [Act.put, List.setIfInBounds_toArray, List.set_cons_zero, List.set_cons_succ]
  try dsimp only
  refine wpAnyH_take (i := 5) (oi := Oper.mk (some 16) _ _ _ _ _) (v := .agg (mv m).toArray) rfl (by kernel_rfl) (by kernel_rfl) (by kernel_rfl) (fun _ _ _ h => h) (yieldsIf_load_mid rfl _ _ rfl g 0 rfl (mv m) dd (fun w h => h.1.range) d1.out d2 (by rw [d3.out]; rfl)) hD ?_
  simp only [Act.put, List.setIfInBounds_toArray, List.set_cons_zero, List.set_cons_succ]
  try dsimp only
  refine wpAnyH_ready (rs := [4]) (by kernel_rfl) (by simp) ?_
  refine AllReadyH.cons rfl (fun K hK => ?_) AllReadyH.nil
  go_simp
  refine (hnm _).mono ?_
  rintro e w2 ⟨rfl, hb2⟩
  have hS2 := hD.since hb2
  clear hb2
  dsimp only
  refine hK.out _ _ hS2 (fun _ => ?_)
  clear hK K
  refine wpAnyH_take (i := 6) (oi := Oper.mk (some 17) _ _ _ _ _) (v := ?_) rfl (by kernel_rfl) (by kernel_rfl) (by kernel_rfl) (fun _ _ _ h => h) (Or.inl ⟨by rfl, ?_⟩) hS2 ?_
  rotate_left
  · intro w hSw
    go_simp
    try with_reducible rfl
  simp only [Act.put, List.setIfInBounds_toArray, List.set_cons_zero, List.set_cons_succ]
  try dsimp only
  refine wpAnyH_take (i := 7) (oi := Oper.mk (some 18) _ _ _ _ _) (v := ?_) rfl (by kernel_rfl) (by kernel_rfl) (by kernel_rfl) (fun _ _ _ h => h) (Or.inl ⟨by rfl, ?_⟩) hS2 ?_
  rotate_left
  · intro w hSw
    go_simp
    try with_reducible rfl
  simp only [Act.put, List.setIfInBounds_toArray, List.set_cons_zero, List.set_cons_succ]
  try dsimp only
  refine wpAnyH_done (by kernel_rfl) ?_ _
  obtain ⟨kind, seq, role, to_, epoch, mode, cls, now, x0, x1, x2, x3⟩ := m
  simp only at hkd hseq hep hro hto hmo hcl hx0 hx1 hx2 hx3
  clear hkk hD hq hnm
  obtain rfl := hkd
  · -- kind 10
    have ho := (lit_one w2 10 (by decide)).own (base := w2.heap.size) (Nat.le_refl _)
    have hb := below_new w2 (.cells #[.int .u8 10] 5)
    have d0 := (mv_cells hS2.1).1
    obtain ⟨c0, c1, c2, c3, c4, c5, c6, c7, c8, c9, c10, c11⟩ := mv_cells (hS2.since hb).1
    obtain ⟨n, rfl⟩ : ∃ n : Nat, seq = n := ⟨seq.toNat, by omega⟩
    have hso := octs_len 4 n
    replace hso := Lib.hid hso
    go_wp2_with fail
    refine (rput_ok (n : Int) 4 n 4 _ rfl rfl (by decide) (by omega) (by omega)).mono ?_
    rintro e w4 ⟨v4, rfl, ho4, hb4⟩
    have ho3 := ho.since hb4
    have hb := hb.trans (hb4.mono hb.size)
    obtain ⟨A4, c4', rfl, hs4⟩ := ho4.seen_at hso.out
    clear ho hb4 ho4 d0 c0 c1 c2 c3 c4 c5 c6 c7 c8 c9 c10 c11
    go_wp2_with (at_builtin; refine wpList_append_own_any _ rfl _ _ rfl w2.heap.size _ [u1 10] rfl ho3 A4 4 c4' rfl (octs 4 n) hso.out hs4 (by rw [hso.out]; simp) hb.size ?_)
    intro v5 w5 ho hg5 hat5
    have ho : Own w5 w2.heap.size v5 (u1 10 :: octs 4 n) := by simpa using ho
    have hb := ho3.grew hb (Nat.le_refl _) hb.size hg5
    clear ho3 hs4 hg5 hat5
    obtain ⟨c0, c1, c2, c3, c4, c5, c6, c7, c8, c9, c10, c11⟩ := mv_cells (hS2.since hb).1
    obtain ⟨m2, rfl⟩ : ∃ m2 : Nat, epoch = m2 := ⟨epoch.toNat, by omega⟩
    have heo := octs_len 2 m2
    replace heo := Lib.hid heo
    have hD : Bx w g _ w5.drew := (hS2.since hb).since (Below.drew (Below.refl _ _))
    have hb := hb.drew
    have hoD : Own w5.drew w2.heap.size v5 (u1 10 :: octs 4 n) := ho
    clear ho
    have ho := hoD
    clear hoD
    go_wp2_with fail
    refine wp_region_held_drew (S := Bx w g _) (by kernel_rfl) hD (fun _ => ?_)
    refine wpAnyH_take (i := 0) (oi := Oper.mk (some 71) _ _ _ _ _) (v := ?_) rfl (by kernel_rfl) (by kernel_rfl) (by kernel_rfl) (fun _ _ _ h => h) (Or.inl ⟨by rfl, ?_⟩) hD ?_
    rotate_left
    · intro w hSw
      go_simp
      try with_reducible rfl
    simp only [Act.put, List.setIfInBounds_toArray, List.set_cons_zero, List.set_cons_succ]
    try dsimp only
    refine wpAnyH_take (i := 1) (oi := Oper.mk (some 72) _ _ _ _ _) (v := ?_) rfl (by kernel_rfl) (by kernel_rfl) (by kernel_rfl) (fun _ _ _ h => h) (Or.inl ⟨by rfl, ?_⟩) hD ?_
    rotate_left
    · intro w hSw
      go_simp
      try with_reducible rfl
    simp only [Act.put, List.setIfInBounds_toArray, List.set_cons_zero, List.set_cons_succ]
    try dsimp only
    refine wpAnyH_take (i := 2) (oi := Oper.mk (some 73) _ _ _ _ _) (v := ?_) rfl (by kernel_rfl) (by kernel_rfl) (by kernel_rfl) (fun _ _ _ h => h) (Or.inl ⟨by rfl, ?_⟩) hD ?_
    rotate_left
    · intro w hSw
      obtain ⟨c0, c1, c2, c3, c4, c5, c6, c7, c8, c9, c10, c11⟩ := mv_cells hSw.1
      go_simp
      try with_reducible rfl
    simp only [Act.put, List.setIfInBounds_toArray, List.set_cons_zero, List.set_cons_succ]
    try dsimp only
    refine wpAnyH_take (i := 5) (oi := Oper.mk (some 76) _ _ _ _ _) (v := ?_) rfl (by kernel_rfl) (by kernel_rfl) (by kernel_rfl) (fun _ _ _ h => h) (Or.inl ⟨by rfl, ?_⟩) hD ?_
    rotate_left
    · intro w hSw
      go_simp
      try with_reducible rfl
    simp only [Act.put, List.setIfInBounds_toArray, List.set_cons_zero, List.set_cons_succ]
    try dsimp only
    refine wpAnyH_take (i := 6) (oi := Oper.mk (some 77) _ _ _ _ _) (v := ?_) rfl (by kernel_rfl) (by kernel_rfl) (by kernel_rfl) (fun _ _ _ h => h) (Or.inl ⟨by rfl, ?_⟩) hD ?_
    rotate_left
    · intro w hSw
      obtain ⟨c0, c1, c2, c3, c4, c5, c6, c7, c8, c9, c10, c11⟩ := mv_cells hSw.1
      go_simp
      try with_reducible rfl
    simp only [Act.put, List.setIfInBounds_toArray, List.set_cons_zero, List.set_cons_succ]
    try dsimp only
    refine wpAnyH_take (i := 7) (oi := Oper.mk (some 78) _ _ _ _ _) (v := ?_) rfl (by kernel_rfl) (by kernel_rfl) (by kernel_rfl) (fun _ _ _ h => h) (Or.inl ⟨by rfl, ?_⟩) hD ?_
    rotate_left
    · intro w hSw
      go_simp
      try with_reducible rfl
    simp only [Act.put, List.setIfInBounds_toArray, List.set_cons_zero, List.set_cons_succ]
    try dsimp only
    have ew : IntKind.u8.wrap mode = mode := by rw [IntKind.wrap_u8]; omega
    simp only [ew]
    clear hD ew
    generalize w5.drew = W at hb ho ⊢
    refine wpAnyH_ready (rs := [3, 8]) (by kernel_rfl) (by simp) ?_
    refine AllReadyH.cons (o := Oper.mk (some 74) _ _ _ _ _) rfl (fun F hF => ?_) (AllReadyH.cons (o := Oper.mk (some 79) _ _ _ _ _) rfl (fun F hF => ?_) AllReadyH.nil)
    · go_simp
      refine (rput_ok (m2 : Int) 2 m2 2 _ rfl rfl (by decide) (by omega) (by omega)).mono ?_
      rintro e wa ⟨v6, rfl, ho6, hb6⟩
      have ho := ho.since hb6
      have hb := hb.trans (hb6.mono hb.size)
      obtain ⟨A6, c6', rfl, hs6⟩ := ho6.seen_at heo.out
      clear ho6
      dsimp only
      refine hF.out _ _ (hS2.since hb) (fun _ => ?_)
      clear hF F
      refine wpAnyH_ready (rs := [4, 8]) (by kernel_rfl) (by simp) ?_
      refine AllReadyH.cons (o := Oper.mk (some 75) _ _ _ _ _) rfl (fun F hF => ?_) (AllReadyH.cons (o := Oper.mk (some 79) _ _ _ _ _) rfl (fun F hF => ?_) AllReadyH.nil)
      · rw [if_pos (by rfl)]
        obtain ⟨v8, wc, hrun, ho8, hg8, hat8⟩ := append_own wa w2.heap.size 29 _ (u1 10 :: octs 4 n) ho A6 (octs 2 m2) c6' hs6 (by rw [List.length_cons, hso.out, heo.out]; decide) hb.size
        rw [heo.out] at hrun
        refine Lib.wp_append_run wa _ _ _ _ rfl _ _ rfl rfl v8 wc hrun ?_
        have hb := ho.grew hb (Nat.le_refl _) hb.size hg8
        clear hs6 hg8 hat8 hrun ho
        simp only [Act.put, List.setIfInBounds_toArray, List.set_cons_zero, List.set_cons_succ]
        refine hF.out _ _ (hS2.since hb) (fun _ => ?_)
        clear hF F
        refine wpAnyH_ready (rs := [8]) (by kernel_rfl) (by simp) ?_
        refine AllReadyH.cons (o := Oper.mk (some 79) _ _ _ _ _) rfl (fun F hF => ?_) AllReadyH.nil
        go_simp
        have hl := lit_one wc mode (by omega)
        have hne : ∀ k, v8.ownBlock = some k → k < wc.heap.size := fun k e => (ho8.lt e).2
        have ho8 := ho8.alloc (.cells #[.int .u8 mode] 5)
        have hb := hb.alloc hb.size (.cells #[.int .u8 mode] 5)
        obtain ⟨j, hj⟩ : ∃ j, wc.heap.size = j := ⟨_, rfl⟩
        rw [hj] at hl hne
        rw [hj]
        refine hF.out _ _ (hS2.since hb) (fun _ => ?_)
        clear hF F hj
        generalize wc.alloc (.cells #[.int .u8 mode] 5) = wcx at hb ho8 hl ⊢
        refine wpAnyH_ready (rs := [9]) (by kernel_rfl) (by simp) ?_
        refine AllReadyH.cons (o := Oper.mk (some 80) _ _ _ _ _) rfl (fun F hF => ?_) AllReadyH.nil
        rw [if_pos (by rfl)]
        obtain ⟨v9, wd, hrun, ho9, hg9, hat9⟩ := append_own wcx w2.heap.size 29 _ (u1 10 :: octs 4 n ++ octs 2 m2) ho8 (some ⟨j, 0, none⟩) [u1 mode] 1 hl.seen (by rw [List.length_append, List.length_cons, hso.out, heo.out]; simp) hb.size
        simp only [List.length_singleton] at hrun
        refine Lib.wp_append_run wcx _ _ _ _ rfl _ _ rfl rfl v9 wd hrun ?_
        have hb := ho8.grew hb (Nat.le_refl _) hb.size hg9
        clear hl hg9 hat9 hrun ho8
        simp only [Act.put, List.setIfInBounds_toArray, List.set_cons_zero, List.set_cons_succ]
        refine hF.out _ _ (hS2.since hb) (fun _ => ?_)
        clear hF F
        refine wpAnyH_take (i := 10) (oi := Oper.mk (some 2) _ _ _ _ _) (v := ?_) rfl (by kernel_rfl) (by kernel_rfl) (by kernel_rfl) (fun _ _ _ h => h) (Or.inl ⟨by rfl, ?_⟩) (hS2.since hb) ?_
        rotate_left
        · intro w hSw
          go_simp
          try with_reducible rfl
        simp only [Act.put, List.setIfInBounds_toArray, List.set_cons_zero, List.set_cons_succ]
        try dsimp only
        refine wpAnyH_take (i := 11) (oi := Oper.mk (some 3) _ _ _ _ _) (v := ?_) rfl (by kernel_rfl) (by kernel_rfl) (by kernel_rfl) (fun _ _ _ h => h) (Or.inl ⟨by rfl, ?_⟩) (hS2.since hb) ?_
        rotate_left
        · intro w hSw
          go_simp
          try with_reducible rfl
        simp only [Act.put, List.setIfInBounds_toArray, List.set_cons_zero, List.set_cons_succ]
        try dsimp only
        refine wpAnyH_done (by kernel_rfl) ?_ _
        have hw7 := hS2.2.trans (hb.mono hS2.2.size)
        have hz := hS2.2.size
        clear hS2 hb
        go_wp2
        go_ret2
        exact ⟨v9, rfl, by have h := ho9.mono hz; simpa [msgB, List.append_assoc] using h, hw7⟩
      · go_simp
        have hl := lit_one wa mode (by omega)
        have hne : ∀ k, v5.ownBlock = some k → k < wa.heap.size := fun k e => (ho.lt e).2
        have ho := ho.alloc (.cells #[.int .u8 mode] 5)
        have hb := hb.alloc hb.size (.cells #[.int .u8 mode] 5)
        have hs6 := hs6.alloc (.cells #[.int .u8 mode] 5)
        obtain ⟨j, hj⟩ : ∃ j, wa.heap.size = j := ⟨_, rfl⟩
        rw [hj] at hl hne
        rw [hj]
        refine hF.out _ _ (hS2.since hb) (fun _ => ?_)
        clear hF F hj
        generalize wa.alloc (.cells #[.int .u8 mode] 5) = wax at hb ho hl hs6 ⊢
        refine wpAnyH_ready (rs := [4]) (by kernel_rfl) (by simp) ?_
        refine AllReadyH.cons (o := Oper.mk (some 75) _ _ _ _ _) rfl (fun F hF => ?_) AllReadyH.nil
        rw [if_pos (by rfl)]
        obtain ⟨v8, wc, hrun, ho8, hg8, hat8⟩ := append_own wax w2.heap.size 29 _ (u1 10 :: octs 4 n) ho A6 (octs 2 m2) c6' hs6 (by rw [List.length_cons, hso.out, heo.out]; decide) hb.size
        rw [heo.out] at hrun
        refine Lib.wp_append_run wax _ _ _ _ rfl _ _ rfl rfl v8 wc hrun ?_
        have hl := hl.grown hg8 fun e => by have := hne _ e.symm; omega
        have hb := ho.grew hb (Nat.le_refl _) hb.size hg8
        clear hs6 hg8 hat8 hrun ho hne
        simp only [Act.put, List.setIfInBounds_toArray, List.set_cons_zero, List.set_cons_succ]
        refine hF.out _ _ (hS2.since hb) (fun _ => ?_)
        clear hF F
        refine wpAnyH_ready (rs := [9]) (by kernel_rfl) (by simp) ?_
        refine AllReadyH.cons (o := Oper.mk (some 80) _ _ _ _ _) rfl (fun F hF => ?_) AllReadyH.nil
        rw [if_pos (by rfl)]
        obtain ⟨v9, wd, hrun, ho9, hg9, hat9⟩ := append_own wc w2.heap.size 29 _ (u1 10 :: octs 4 n ++ octs 2 m2) ho8 (some ⟨j, 0, none⟩) [u1 mode] 1 hl.seen (by rw [List.length_append, List.length_cons, hso.out, heo.out]; simp) hb.size
        simp only [List.length_singleton] at hrun
        refine Lib.wp_append_run wc _ _ _ _ rfl _ _ rfl rfl v9 wd hrun ?_
        have hb := ho8.grew hb (Nat.le_refl _) hb.size hg9
        clear hl hg9 hat9 hrun ho8
        simp only [Act.put, List.setIfInBounds_toArray, List.set_cons_zero, List.set_cons_succ]
        refine hF.out _ _ (hS2.since hb) (fun _ => ?_)
        clear hF F
        refine wpAnyH_take (i := 10) (oi := Oper.mk (some 2) _ _ _ _ _) (v := ?_) rfl (by kernel_rfl) (by kernel_rfl) (by kernel_rfl) (fun _ _ _ h => h) (Or.inl ⟨by rfl, ?_⟩) (hS2.since hb) ?_
        rotate_left
        · intro w hSw
          go_simp
          try with_reducible rfl
        simp only [Act.put, List.setIfInBounds_toArray, List.set_cons_zero, List.set_cons_succ]
        try dsimp only
        refine wpAnyH_take (i := 11) (oi := Oper.mk (some 3) _ _ _ _ _) (v := ?_) rfl (by kernel_rfl) (by kernel_rfl) (by kernel_rfl) (fun _ _ _ h => h) (Or.inl ⟨by rfl, ?_⟩) (hS2.since hb) ?_
        rotate_left
        · intro w hSw
          go_simp
          try with_reducible rfl
        simp only [Act.put, List.setIfInBounds_toArray, List.set_cons_zero, List.set_cons_succ]
        try dsimp only
        refine wpAnyH_done (by kernel_rfl) ?_ _
        have hw7 := hS2.2.trans (hb.mono hS2.2.size)
        have hz := hS2.2.size
        clear hS2 hb
        go_wp2
        go_ret2
        exact ⟨v9, rfl, by have h := ho9.mono hz; simpa [msgB, List.append_assoc] using h, hw7⟩
    · go_simp
      have hl := lit_one W mode (by omega)
      have hne : ∀ k, v5.ownBlock = some k → k < W.heap.size := fun k e => (ho.lt e).2
      have ho := ho.alloc (.cells #[.int .u8 mode] 5)
      have hb := hb.alloc hb.size (.cells #[.int .u8 mode] 5)
      obtain ⟨j, hj⟩ : ∃ j, W.heap.size = j := ⟨_, rfl⟩
      rw [hj] at hl hne
      rw [hj]
      refine hF.out _ _ (hS2.since hb) (fun _ => ?_)
      clear hF F hj
      generalize W.alloc (.cells #[.int .u8 mode] 5) = Wx at hb ho hl ⊢
      refine wpAnyH_ready (rs := [3]) (by kernel_rfl) (by simp) ?_
      refine AllReadyH.cons (o := Oper.mk (some 74) _ _ _ _ _) rfl (fun F hF => ?_) AllReadyH.nil
      go_simp
      refine (rput_ok (m2 : Int) 2 m2 2 _ rfl rfl (by decide) (by omega) (by omega)).mono ?_
      rintro e wa ⟨v6, rfl, ho6, hb6⟩
      have ho := ho.since hb6
      have hb := hb.trans (hb6.mono hb.size)
      obtain ⟨A6, c6', rfl, hs6⟩ := ho6.seen_at heo.out
      have hl := hl.since hb6
      clear ho6
      dsimp only
      refine hF.out _ _ (hS2.since hb) (fun _ => ?_)
      clear hF F
      refine wpAnyH_ready (rs := [4]) (by kernel_rfl) (by simp) ?_
      refine AllReadyH.cons (o := Oper.mk (some 75) _ _ _ _ _) rfl (fun F hF => ?_) AllReadyH.nil
      rw [if_pos (by rfl)]
      obtain ⟨v8, wc, hrun, ho8, hg8, hat8⟩ := append_own wa w2.heap.size 29 _ (u1 10 :: octs 4 n) ho A6 (octs 2 m2) c6' hs6 (by rw [List.length_cons, hso.out, heo.out]; decide) hb.size
      rw [heo.out] at hrun
      refine Lib.wp_append_run wa _ _ _ _ rfl _ _ rfl rfl v8 wc hrun ?_
      have hl := hl.grown hg8 fun e => by have := hne _ e.symm; omega
      have hb := ho.grew hb (Nat.le_refl _) hb.size hg8
      clear hs6 hg8 hat8 hrun ho hne
      simp only [Act.put, List.setIfInBounds_toArray, List.set_cons_zero, List.set_cons_succ]
      refine hF.out _ _ (hS2.since hb) (fun _ => ?_)
      clear hF F
      refine wpAnyH_ready (rs := [9]) (by kernel_rfl) (by simp) ?_
      refine AllReadyH.cons (o := Oper.mk (some 80) _ _ _ _ _) rfl (fun F hF => ?_) AllReadyH.nil
      rw [if_pos (by rfl)]
      obtain ⟨v9, wd, hrun, ho9, hg9, hat9⟩ := append_own wc w2.heap.size 29 _ (u1 10 :: octs 4 n ++ octs 2 m2) ho8 (some ⟨j, 0, none⟩) [u1 mode] 1 hl.seen (by rw [List.length_append, List.length_cons, hso.out, heo.out]; simp) hb.size
      simp only [List.length_singleton] at hrun
      refine Lib.wp_append_run wc _ _ _ _ rfl _ _ rfl rfl v9 wd hrun ?_
      have hb := ho8.grew hb (Nat.le_refl _) hb.size hg9
      clear hl hg9 hat9 hrun ho8
      simp only [Act.put, List.setIfInBounds_toArray, List.set_cons_zero, List.set_cons_succ]
      refine hF.out _ _ (hS2.since hb) (fun _ => ?_)
      clear hF F
      refine wpAnyH_take (i := 10) (oi := Oper.mk (some 2) _ _ _ _ _) (v := ?_) rfl (by kernel_rfl) (by kernel_rfl) (by kernel_rfl) (fun _ _ _ h => h) (Or.inl ⟨by rfl, ?_⟩) (hS2.since hb) ?_
      rotate_left
      · intro w hSw
        go_simp
        try with_reducible rfl
      simp only [Act.put, List.setIfInBounds_toArray, List.set_cons_zero, List.set_cons_succ]
      try dsimp only
      refine wpAnyH_take (i := 11) (oi := Oper.mk (some 3) _ _ _ _ _) (v := ?_) rfl (by kernel_rfl) (by kernel_rfl) (by kernel_rfl) (fun _ _ _ h => h) (Or.inl ⟨by rfl, ?_⟩) (hS2.since hb) ?_
      rotate_left
      · intro w hSw
        go_simp
        try with_reducible rfl
      simp only [Act.put, List.setIfInBounds_toArray, List.set_cons_zero, List.set_cons_succ]
      try dsimp only
      refine wpAnyH_done (by kernel_rfl) ?_ _
      have hw7 := hS2.2.trans (hb.mono hS2.2.size)
      have hz := hS2.2.size
      clear hS2 hb
      go_wp2
      go_ret2
      exact ⟨v9, rfl, by have h := ho9.mono hz; simpa [msgB, List.append_assoc] using h, hw7⟩
set_option maxRecDepth 100000 in
set_option maxHeartbeats 4000000 in
theorem refPut_11 (m : M) (w : World) (h : okM m = true) (hkd : m.kind = 11) : Calls Try.prog 12 #[.agg (mv m).toArray] w fun e w' => ∃ v, e = .returned (.tuple #[v, .int .i64 0]) ∧ Own w' w.heap.size v (msgB m) ∧ Below w.heap.size w w' := by
  obtain ⟨hnd, hkk, hseq, hep, hro, hto, hmo, hcl, hx0, hx1, hx2, hx3⟩ := okM_parts h
  have hA := Arr.new w (mv m) 24
  have hw := below_new w (.cells (mv m).toArray 24)
  have hfm := fun W => fits_ok m W
  have hnm := fun W => named_ok m W
  have hbf : fitsM m = true := by unfold okM at h; simp only [Bool.and_eq_true] at h; exact h.1
  rw [hbf] at hfm
  have hq := fun W => neq_msg (namedM m) m W
  rw [decide_eq_true hnd] at hq
  obtain ⟨dd, d1, d2, d3⟩ := rowB_spec (P := Try.prog) (ty := 24) (n := 12) (by kernel_rfl)
  replace d1 := Lib.hid d1
  replace d3 := Lib.hid d3
  clear h hbf hnd
  go_enter Try.func12, Try.ntmps12
  go_wp2_with (guard_target =~ wpList _ _ _ (Oper.mk _ (Op.load _ _) _ _ _ _ :: _) _ _; refine wpList_load_arr 12 rfl rfl rfl hA (by kernel_rfl) rfl ?_)
  generalize w.alloc (.cells (mv m).toArray 24) = W0 at hA hw ⊢
  refine (hfm _).mono ?_
  rintro e w1 ⟨rfl, hb1⟩
  have hS0 : Bx w w.heap.size m w1 := (show Bx w w.heap.size m W0 from ⟨hA, hw⟩).since hb1
  clear hA hw hb1
  generalize w.heap.size = g at hS0 ⊢
  have hD : Bx w g m w1.drew := hS0.since (Below.drew (Below.refl _ _))
  go_wp2_with fail
  refine wp_region_held_drew (S := Bx w g m) (by kernel_rfl) hD (fun _ => ?_)
  refine wpAnyH_take (i := 0) (oi := Oper.mk (some 11) _ _ _ _ _) (v := ?_) rfl (by kernel_rfl) (by kernel_rfl) (by kernel_rfl) (fun _ _ _ h => h) (Or.inl ⟨by rfl, ?_⟩) hD ?_
  rotate_left
  · intro w hSw
    go_simp
    try with_reducible rfl
  simp only [Act.put, List.setIfInBounds_toArray, List.set_cons_zero, List.set_cons_succ]
  try dsimp only
  refine wpAnyH_take (i := 1) (oi := Oper.mk (some 12) _ _ _ _ _) (v := ?_) rfl (by kernel_rfl) (by kernel_rfl) (by kernel_rfl) (fun _ _ _ h => h) (Or.inl ⟨by rfl, ?_⟩) hD ?_
  rotate_left
  · intro w hSw
    go_simp
    try with_reducible rfl
  simp only [Act.put, List.setIfInBounds_toArray, List.set_cons_zero, List.set_cons_succ]
  try dsimp only
  refine wpAnyH_take (i := 2) (oi := Oper.mk (some 13) _ _ _ _ _) (v := ?_) rfl (by kernel_rfl) (by kernel_rfl) (by kernel_rfl) (fun _ _ _ h => h) (Or.inl ⟨by rfl, ?_⟩) hD ?_
  rotate_left
  · intro w hSw
    go_simp
    try with_reducible rfl
  simp only [Act.put, List.setIfInBounds_toArray, List.set_cons_zero, List.set_cons_succ]
  try dsimp only
  refine wpAnyH_take (i := 3) (oi := Oper.mk (some 14) _ _ _ _ _) (v := .agg (mv m).toArray) rfl (by kernel_rfl) (by kernel_rfl) (by kernel_rfl) (fun _ _ _ h => h) (yieldsIf_load_mid rfl _ _ rfl g 0 rfl (mv m) dd (fun w h => h.1.range) d1.out d2 (by rw [d3.out]; rfl)) hD ?_
  simp only [Act.put, List.setIfInBounds_toArray, List.set_cons_zero, List.set_cons_succ]
  try dsimp only
  refine wpAnyH_take (i := 5) (oi := Oper.mk (some 16) _ _ _ _ _) (v := .agg (mv m).toArray) rfl (by kernel_rfl) (by kernel_rfl) (by kernel_rfl) (fun _ _ _ h => h) (yieldsIf_load_mid rfl _ _ rfl g 0 rfl (mv m) dd (fun w h => h.1.range) d1.out d2 (by rw [d3.out]; rfl)) hD ?_
  simp only [Act.put, List.setIfInBounds_toArray, List.set_cons_zero, List.set_cons_succ]
  try dsimp only
  refine wpAnyH_ready (rs := [4]) (by kernel_rfl) (by simp) ?_
  refine AllReadyH.cons rfl (fun K hK => ?_) AllReadyH.nil
  go_simp
  refine (hnm _).mono ?_
  rintro e w2 ⟨rfl, hb2⟩
  have hS2 := hD.since hb2
  clear hb2
  dsimp only
  refine hK.out _ _ hS2 (fun _ => ?_)
  clear hK K
  refine wpAnyH_take (i := 6) (oi := Oper.mk (some 17) _ _ _ _ _) (v := ?_) rfl (by kernel_rfl) (by kernel_rfl) (by kernel_rfl) (fun _ _ _ h => h) (Or.inl ⟨by rfl, ?_⟩) hS2 ?_
  rotate_left
  · intro w hSw
    go_simp
    try with_reducible rfl
  simp only [Act.put, List.setIfInBounds_toArray, List.set_cons_zero, List.set_cons_succ]
  try dsimp only
  refine wpAnyH_take (i := 7) (oi := Oper.mk (some 18) _ _ _ _ _) (v := ?_) rfl (by kernel_rfl) (by kernel_rfl) (by kernel_rfl) (fun _ _ _ h => h) (Or.inl ⟨by rfl, ?_⟩) hS2 ?_
  rotate_left
  · intro w hSw
    go_simp
    try with_reducible rfl
  simp only [Act.put, List.setIfInBounds_toArray, List.set_cons_zero, List.set_cons_succ]
  try dsimp only
  refine wpAnyH_done (by kernel_rfl) ?_ _
  obtain ⟨kind, seq, role, to_, epoch, mode, cls, now, x0, x1, x2, x3⟩ := m
  simp only at hkd hseq hep hro hto hmo hcl hx0 hx1 hx2 hx3
  clear hkk hD hq hnm
  obtain rfl := hkd
  · -- kind 11
    have ho := (lit_one w2 11 (by decide)).own (base := w2.heap.size) (Nat.le_refl _)
    have hb := below_new w2 (.cells #[.int .u8 11] 5)
    have d0 := (mv_cells hS2.1).1
    obtain ⟨c0, c1, c2, c3, c4, c5, c6, c7, c8, c9, c10, c11⟩ := mv_cells (hS2.since hb).1
    obtain ⟨n, rfl⟩ : ∃ n : Nat, seq = n := ⟨seq.toNat, by omega⟩
    have hso := octs_len 4 n
    replace hso := Lib.hid hso
    go_wp2_with fail
    refine (rput_ok (n : Int) 4 n 4 _ rfl rfl (by decide) (by omega) (by omega)).mono ?_
    rintro e w4 ⟨v4, rfl, ho4, hb4⟩
    have ho3 := ho.since hb4
    have hb := hb.trans (hb4.mono hb.size)
    obtain ⟨A4, c4', rfl, hs4⟩ := ho4.seen_at hso.out
    clear ho hb4 ho4 d0 c0 c1 c2 c3 c4 c5 c6 c7 c8 c9 c10 c11
    go_wp2_with (at_builtin; refine wpList_append_own_any _ rfl _ _ rfl w2.heap.size _ [u1 11] rfl ho3 A4 4 c4' rfl (octs 4 n) hso.out hs4 (by rw [hso.out]; simp) hb.size ?_)
    intro v5 w5 ho hg5 hat5
    have ho : Own w5 w2.heap.size v5 (u1 11 :: octs 4 n) := by simpa using ho
    have hb := ho3.grew hb (Nat.le_refl _) hb.size hg5
    clear ho3 hs4 hg5 hat5
    obtain ⟨c0, c1, c2, c3, c4, c5, c6, c7, c8, c9, c10, c11⟩ := mv_cells (hS2.since hb).1
    obtain ⟨m2, rfl⟩ : ∃ m2 : Nat, epoch = m2 := ⟨epoch.toNat, by omega⟩
    have heo := octs_len 2 m2
    replace heo := Lib.hid heo
    have hD : Bx w g _ w5.drew := (hS2.since hb).since (Below.drew (Below.refl _ _))
    have hb := hb.drew
    have hoD : Own w5.drew w2.heap.size v5 (u1 11 :: octs 4 n) := ho
    clear ho
    have ho := hoD
    clear hoD
    go_wp2_with fail
    refine wp_region_held_drew (S := Bx w g _) (by kernel_rfl) hD (fun _ => ?_)
    refine wpAnyH_take (i := 0) (oi := Oper.mk (some 83) _ _ _ _ _) (v := ?_) rfl (by kernel_rfl) (by kernel_rfl) (by kernel_rfl) (fun _ _ _ h => h) (Or.inl ⟨by rfl, ?_⟩) hD ?_
    rotate_left
    · intro w hSw
      go_simp
      try with_reducible rfl
    simp only [Act.put, List.setIfInBounds_toArray, List.set_cons_zero, List.set_cons_succ]
    try dsimp only
    refine wpAnyH_take (i := 1) (oi := Oper.mk (some 84) _ _ _ _ _) (v := ?_) rfl (by kernel_rfl) (by kernel_rfl) (by kernel_rfl) (fun _ _ _ h => h) (Or.inl ⟨by rfl, ?_⟩) hD ?_
    rotate_left
    · intro w hSw
      go_simp
      try with_reducible rfl
    simp only [Act.put, List.setIfInBounds_toArray, List.set_cons_zero, List.set_cons_succ]
    try dsimp only
    refine wpAnyH_take (i := 2) (oi := Oper.mk (some 85) _ _ _ _ _) (v := ?_) rfl (by kernel_rfl) (by kernel_rfl) (by kernel_rfl) (fun _ _ _ h => h) (Or.inl ⟨by rfl, ?_⟩) hD ?_
    rotate_left
    · intro w hSw
      obtain ⟨c0, c1, c2, c3, c4, c5, c6, c7, c8, c9, c10, c11⟩ := mv_cells hSw.1
      go_simp
      try with_reducible rfl
    simp only [Act.put, List.setIfInBounds_toArray, List.set_cons_zero, List.set_cons_succ]
    try dsimp only
    refine wpAnyH_take (i := 5) (oi := Oper.mk (some 88) _ _ _ _ _) (v := ?_) rfl (by kernel_rfl) (by kernel_rfl) (by kernel_rfl) (fun _ _ _ h => h) (Or.inl ⟨by rfl, ?_⟩) hD ?_
    rotate_left
    · intro w hSw
      go_simp
      try with_reducible rfl
    simp only [Act.put, List.setIfInBounds_toArray, List.set_cons_zero, List.set_cons_succ]
    try dsimp only
    refine wpAnyH_take (i := 6) (oi := Oper.mk (some 89) _ _ _ _ _) (v := ?_) rfl (by kernel_rfl) (by kernel_rfl) (by kernel_rfl) (fun _ _ _ h => h) (Or.inl ⟨by rfl, ?_⟩) hD ?_
    rotate_left
    · intro w hSw
      obtain ⟨c0, c1, c2, c3, c4, c5, c6, c7, c8, c9, c10, c11⟩ := mv_cells hSw.1
      go_simp
      try with_reducible rfl
    simp only [Act.put, List.setIfInBounds_toArray, List.set_cons_zero, List.set_cons_succ]
    try dsimp only
    refine wpAnyH_take (i := 7) (oi := Oper.mk (some 90) _ _ _ _ _) (v := ?_) rfl (by kernel_rfl) (by kernel_rfl) (by kernel_rfl) (fun _ _ _ h => h) (Or.inl ⟨by rfl, ?_⟩) hD ?_
    rotate_left
    · intro w hSw
      go_simp
      try with_reducible rfl
    simp only [Act.put, List.setIfInBounds_toArray, List.set_cons_zero, List.set_cons_succ]
    try dsimp only
    have ew : IntKind.u8.wrap cls = cls := by rw [IntKind.wrap_u8]; omega
    simp only [ew]
    clear hD ew
    generalize w5.drew = W at hb ho ⊢
    refine wpAnyH_ready (rs := [3, 8]) (by kernel_rfl) (by simp) ?_
    refine AllReadyH.cons (o := Oper.mk (some 86) _ _ _ _ _) rfl (fun F hF => ?_) (AllReadyH.cons (o := Oper.mk (some 91) _ _ _ _ _) rfl (fun F hF => ?_) AllReadyH.nil)
    · go_simp
      refine (rput_ok (m2 : Int) 2 m2 2 _ rfl rfl (by decide) (by omega) (by omega)).mono ?_
      rintro e wa ⟨v6, rfl, ho6, hb6⟩
      have ho := ho.since hb6
      have hb := hb.trans (hb6.mono hb.size)
      obtain ⟨A6, c6', rfl, hs6⟩ := ho6.seen_at heo.out
      clear ho6
      dsimp only
      refine hF.out _ _ (hS2.since hb) (fun _ => ?_)
      clear hF F
      refine wpAnyH_ready (rs := [4, 8]) (by kernel_rfl) (by simp) ?_
      refine AllReadyH.cons (o := Oper.mk (some 87) _ _ _ _ _) rfl (fun F hF => ?_) (AllReadyH.cons (o := Oper.mk (some 91) _ _ _ _ _) rfl (fun F hF => ?_) AllReadyH.nil)
      · rw [if_pos (by rfl)]
        obtain ⟨v8, wc, hrun, ho8, hg8, hat8⟩ := append_own wa w2.heap.size 29 _ (u1 11 :: octs 4 n) ho A6 (octs 2 m2) c6' hs6 (by rw [List.length_cons, hso.out, heo.out]; decide) hb.size
        rw [heo.out] at hrun
        refine Lib.wp_append_run wa _ _ _ _ rfl _ _ rfl rfl v8 wc hrun ?_
        have hb := ho.grew hb (Nat.le_refl _) hb.size hg8
        clear hs6 hg8 hat8 hrun ho
        simp only [Act.put, List.setIfInBounds_toArray, List.set_cons_zero, List.set_cons_succ]
        refine hF.out _ _ (hS2.since hb) (fun _ => ?_)
        clear hF F
        refine wpAnyH_ready (rs := [8]) (by kernel_rfl) (by simp) ?_
        refine AllReadyH.cons (o := Oper.mk (some 91) _ _ _ _ _) rfl (fun F hF => ?_) AllReadyH.nil
        go_simp
        have hl := lit_one wc cls (by omega)
        have hne : ∀ k, v8.ownBlock = some k → k < wc.heap.size := fun k e => (ho8.lt e).2
        have ho8 := ho8.alloc (.cells #[.int .u8 cls] 5)
        have hb := hb.alloc hb.size (.cells #[.int .u8 cls] 5)
        obtain ⟨j, hj⟩ : ∃ j, wc.heap.size = j := ⟨_, rfl⟩
        rw [hj] at hl hne
        rw [hj]
        refine hF.out _ _ (hS2.since hb) (fun _ => ?_)
        clear hF F hj
        generalize wc.alloc (.cells #[.int .u8 cls] 5) = wcx at hb ho8 hl ⊢
        refine wpAnyH_ready (rs := [9]) (by kernel_rfl) (by simp) ?_
        refine AllReadyH.cons (o := Oper.mk (some 92) _ _ _ _ _) rfl (fun F hF => ?_) AllReadyH.nil
        rw [if_pos (by rfl)]
        obtain ⟨v9, wd, hrun, ho9, hg9, hat9⟩ := append_own wcx w2.heap.size 29 _ (u1 11 :: octs 4 n ++ octs 2 m2) ho8 (some ⟨j, 0, none⟩) [u1 cls] 1 hl.seen (by rw [List.length_append, List.length_cons, hso.out, heo.out]; simp) hb.size
        simp only [List.length_singleton] at hrun
        refine Lib.wp_append_run wcx _ _ _ _ rfl _ _ rfl rfl v9 wd hrun ?_
        have hb := ho8.grew hb (Nat.le_refl _) hb.size hg9
        clear hl hg9 hat9 hrun ho8
        simp only [Act.put, List.setIfInBounds_toArray, List.set_cons_zero, List.set_cons_succ]
        refine hF.out _ _ (hS2.since hb) (fun _ => ?_)
        clear hF F
        refine wpAnyH_take (i := 10) (oi := Oper.mk (some 5) _ _ _ _ _) (v := ?_) rfl (by kernel_rfl) (by kernel_rfl) (by kernel_rfl) (fun _ _ _ h => h) (Or.inl ⟨by rfl, ?_⟩) (hS2.since hb) ?_
        rotate_left
        · intro w hSw
          go_simp
          try with_reducible rfl
        simp only [Act.put, List.setIfInBounds_toArray, List.set_cons_zero, List.set_cons_succ]
        try dsimp only
        refine wpAnyH_done (by kernel_rfl) ?_ _
        obtain ⟨L, hL⟩ : ∃ L, u1 11 :: octs 4 n ++ octs 2 m2 ++ [u1 cls] = L := ⟨_, rfl⟩
        have hLl : L.length = 8 := by rw [← hL, List.length_append, List.length_append, List.length_cons, hso.out, heo.out]; rfl
        have ho9 : Own wd w2.heap.size v9 L := by rw [← hL]; exact ho9
        replace hL := Lib.hid hL
        replace hLl := Lib.hid hLl
        clear hso heo
        go_wp2
        go_loopw [5, 6] (fun v t W => Below w2.heap.size w2 W ∧ ∃ i : Nat, t = .int .i64 i ∧ ((i = 0 ∧ Own W w2.heap.size v L) ∨ (i = 1 ∧ Own W w2.heap.size v (L ++ octs 2 (sign x0))) ∨ (i = 2 ∧ Own W w2.heap.size v ((L ++ octs 2 (sign x0)) ++ octs 2 (sign x1))) ∨ (i = 3 ∧ Own W w2.heap.size v (((L ++ octs 2 (sign x0)) ++ octs 2 (sign x1)) ++ octs 2 (sign x2))) ∨ (i = 4 ∧ Own W w2.heap.size v ((((L ++ octs 2 (sign x0)) ++ octs 2 (sign x1)) ++ octs 2 (sign x2)) ++ octs 2 (sign x3))))) (fun _ t _ => 4 - (intOf t).toNat)
        case atStart => exact ⟨hb, 0, rfl, .inl ⟨rfl, ho9⟩⟩
        case round =>
          clear hb ho9
          obtain ⟨hb, i, rfl, ⟨rfl, ho⟩ | ⟨rfl, ho⟩ | ⟨rfl, ho⟩ | ⟨rfl, ho⟩ | ⟨rfl, ho⟩⟩ := hrel
          · simp only [show ((0 : Nat) : Int) = 0 from rfl]
            obtain ⟨c0, c1, c2, c3, c4, c5, c6, c7, c8, c9, c10, c11⟩ := mv_cells (hS2.since hb).1
            obtain ⟨s1, hs1⟩ : ∃ s1, sign x0 = s1 := ⟨_, rfl⟩
            have hso := octs_len 2 s1
            go_wp2_with fail
            refine (rputInt_ok x0 s1 _ (by omega) (by omega) hs1).mono ?_
            rintro e wa ⟨v6, rfl, ho6, hb6⟩
            have ho := ho.since hb6
            have hb := hb.trans (hb6.mono hb.size)
            obtain ⟨A6, c6', rfl, hs6⟩ := ho6.seen_at hso
            replace hso := Lib.hid hso
            clear ho6 hb6 c0 c1 c2 c3 c4 c5 c6 c7 c8 c9 c10 c11
            have hlen : (L).length ≤ 20 := by simp [hLl.out, octs_len]
            go_wp2_with (at_builtin; refine wpList_append_own_any _ rfl _ _ rfl w2.heap.size _ L rfl ho A6 2 c6' rfl (octs 2 s1) hso.out hs6 (by rw [hso.out]; omega) hb.size ?_)
            intro v7 w7 ho7 hg7 hat7
            have hb7 := ho.grew hb (Nat.le_refl _) hb.size hg7
            have ho8 : Own w7 w2.heap.size v7 (L ++ octs 2 (sign x0)) := by rw [hs1]; simpa using ho7
            clear ho hb hs6 hg7 hat7 ho7 hso hs1 hlen
            go_wp2
            go_roundw
            case rel => exact ⟨hb7, 1, rfl, .inr (.inl ⟨rfl, ho8⟩)⟩
            case measure => simp [intOf]
          · simp only [show ((1 : Nat) : Int) = 1 from rfl]
            obtain ⟨c0, c1, c2, c3, c4, c5, c6, c7, c8, c9, c10, c11⟩ := mv_cells (hS2.since hb).1
            obtain ⟨s1, hs1⟩ : ∃ s1, sign x1 = s1 := ⟨_, rfl⟩
            have hso := octs_len 2 s1
            go_wp2_with fail
            refine (rputInt_ok x1 s1 _ (by omega) (by omega) hs1).mono ?_
            rintro e wa ⟨v6, rfl, ho6, hb6⟩
            have ho := ho.since hb6
            have hb := hb.trans (hb6.mono hb.size)
            obtain ⟨A6, c6', rfl, hs6⟩ := ho6.seen_at hso
            replace hso := Lib.hid hso
            clear ho6 hb6 c0 c1 c2 c3 c4 c5 c6 c7 c8 c9 c10 c11
            have hlen : ((L ++ octs 2 (sign x0))).length ≤ 20 := by simp [hLl.out, octs_len]
            go_wp2_with (at_builtin; refine wpList_append_own_any _ rfl _ _ rfl w2.heap.size _ (L ++ octs 2 (sign x0)) rfl ho A6 2 c6' rfl (octs 2 s1) hso.out hs6 (by rw [hso.out]; omega) hb.size ?_)
            intro v7 w7 ho7 hg7 hat7
            have hb7 := ho.grew hb (Nat.le_refl _) hb.size hg7
            have ho8 : Own w7 w2.heap.size v7 ((L ++ octs 2 (sign x0)) ++ octs 2 (sign x1)) := by rw [hs1]; simpa using ho7
            clear ho hb hs6 hg7 hat7 ho7 hso hs1 hlen
            go_wp2
            go_roundw
            case rel => exact ⟨hb7, 2, rfl, .inr (.inr (.inl ⟨rfl, ho8⟩))⟩
            case measure => simp [intOf]
          · simp only [show ((2 : Nat) : Int) = 2 from rfl]
            obtain ⟨c0, c1, c2, c3, c4, c5, c6, c7, c8, c9, c10, c11⟩ := mv_cells (hS2.since hb).1
            obtain ⟨s1, hs1⟩ : ∃ s1, sign x2 = s1 := ⟨_, rfl⟩
            have hso := octs_len 2 s1
            go_wp2_with fail
            refine (rputInt_ok x2 s1 _ (by omega) (by omega) hs1).mono ?_
            rintro e wa ⟨v6, rfl, ho6, hb6⟩
            have ho := ho.since hb6
            have hb := hb.trans (hb6.mono hb.size)
            obtain ⟨A6, c6', rfl, hs6⟩ := ho6.seen_at hso
            replace hso := Lib.hid hso
            clear ho6 hb6 c0 c1 c2 c3 c4 c5 c6 c7 c8 c9 c10 c11
            have hlen : (((L ++ octs 2 (sign x0)) ++ octs 2 (sign x1))).length ≤ 20 := by simp [hLl.out, octs_len]
            go_wp2_with (at_builtin; refine wpList_append_own_any _ rfl _ _ rfl w2.heap.size _ ((L ++ octs 2 (sign x0)) ++ octs 2 (sign x1)) rfl ho A6 2 c6' rfl (octs 2 s1) hso.out hs6 (by rw [hso.out]; omega) hb.size ?_)
            intro v7 w7 ho7 hg7 hat7
            have hb7 := ho.grew hb (Nat.le_refl _) hb.size hg7
            have ho8 : Own w7 w2.heap.size v7 (((L ++ octs 2 (sign x0)) ++ octs 2 (sign x1)) ++ octs 2 (sign x2)) := by rw [hs1]; simpa using ho7
            clear ho hb hs6 hg7 hat7 ho7 hso hs1 hlen
            go_wp2
            go_roundw
            case rel => exact ⟨hb7, 3, rfl, .inr (.inr (.inr (.inl ⟨rfl, ho8⟩)))⟩
            case measure => simp [intOf]
          · simp only [show ((3 : Nat) : Int) = 3 from rfl]
            obtain ⟨c0, c1, c2, c3, c4, c5, c6, c7, c8, c9, c10, c11⟩ := mv_cells (hS2.since hb).1
            obtain ⟨s1, hs1⟩ : ∃ s1, sign x3 = s1 := ⟨_, rfl⟩
            have hso := octs_len 2 s1
            go_wp2_with fail
            refine (rputInt_ok x3 s1 _ (by omega) (by omega) hs1).mono ?_
            rintro e wa ⟨v6, rfl, ho6, hb6⟩
            have ho := ho.since hb6
            have hb := hb.trans (hb6.mono hb.size)
            obtain ⟨A6, c6', rfl, hs6⟩ := ho6.seen_at hso
            replace hso := Lib.hid hso
            clear ho6 hb6 c0 c1 c2 c3 c4 c5 c6 c7 c8 c9 c10 c11
            have hlen : ((((L ++ octs 2 (sign x0)) ++ octs 2 (sign x1)) ++ octs 2 (sign x2))).length ≤ 20 := by simp [hLl.out, octs_len]
            go_wp2_with (at_builtin; refine wpList_append_own_any _ rfl _ _ rfl w2.heap.size _ (((L ++ octs 2 (sign x0)) ++ octs 2 (sign x1)) ++ octs 2 (sign x2)) rfl ho A6 2 c6' rfl (octs 2 s1) hso.out hs6 (by rw [hso.out]; omega) hb.size ?_)
            intro v7 w7 ho7 hg7 hat7
            have hb7 := ho.grew hb (Nat.le_refl _) hb.size hg7
            have ho8 : Own w7 w2.heap.size v7 ((((L ++ octs 2 (sign x0)) ++ octs 2 (sign x1)) ++ octs 2 (sign x2)) ++ octs 2 (sign x3)) := by rw [hs1]; simpa using ho7
            clear ho hb hs6 hg7 hat7 ho7 hso hs1 hlen
            go_wp2
            go_roundw
            case rel => exact ⟨hb7, 4, rfl, .inr (.inr (.inr (.inr (⟨rfl, ho8⟩))))⟩
            case measure => simp [intOf]
          · simp only [show ((4 : Nat) : Int) = 4 from rfl]
            have hw7 := hS2.2.trans (hb.mono hS2.2.size)
            have hz := hS2.2.size
            clear hS2 hb
            go_wp2
            go_ret2
            exact ⟨_, rfl, by have h := ho.mono hz; rw [← hL.out] at h; simpa [msgB, List.append_assoc] using h, hw7⟩
      · go_simp
        have hl := lit_one wa cls (by omega)
        have hne : ∀ k, v5.ownBlock = some k → k < wa.heap.size := fun k e => (ho.lt e).2
        have ho := ho.alloc (.cells #[.int .u8 cls] 5)
        have hb := hb.alloc hb.size (.cells #[.int .u8 cls] 5)
        have hs6 := hs6.alloc (.cells #[.int .u8 cls] 5)
        obtain ⟨j, hj⟩ : ∃ j, wa.heap.size = j := ⟨_, rfl⟩
        rw [hj] at hl hne
        rw [hj]
        refine hF.out _ _ (hS2.since hb) (fun _ => ?_)
        clear hF F hj
        generalize wa.alloc (.cells #[.int .u8 cls] 5) = wax at hb ho hl hs6 ⊢
        refine wpAnyH_ready (rs := [4]) (by kernel_rfl) (by simp) ?_
        refine AllReadyH.cons (o := Oper.mk (some 87) _ _ _ _ _) rfl (fun F hF => ?_) AllReadyH.nil
        rw [if_pos (by rfl)]
        obtain ⟨v8, wc, hrun, ho8, hg8, hat8⟩ := append_own wax w2.heap.size 29 _ (u1 11 :: octs 4 n) ho A6 (octs 2 m2) c6' hs6 (by rw [List.length_cons, hso.out, heo.out]; decide) hb.size
        rw [heo.out] at hrun
        refine Lib.wp_append_run wax _ _ _ _ rfl _ _ rfl rfl v8 wc hrun ?_
        have hl := hl.grown hg8 fun e => by have := hne _ e.symm; omega
        have hb := ho.grew hb (Nat.le_refl _) hb.size hg8
        clear hs6 hg8 hat8 hrun ho hne
        simp only [Act.put, List.setIfInBounds_toArray, List.set_cons_zero, List.set_cons_succ]
        refine hF.out _ _ (hS2.since hb) (fun _ => ?_)
        clear hF F
        refine wpAnyH_ready (rs := [9]) (by kernel_rfl) (by simp) ?_
        refine AllReadyH.cons (o := Oper.mk (some 92) _ _ _ _ _) rfl (fun F hF => ?_) AllReadyH.nil
        rw [if_pos (by rfl)]
        obtain ⟨v9, wd, hrun, ho9, hg9, hat9⟩ := append_own wc w2.heap.size 29 _ (u1 11 :: octs 4 n ++ octs 2 m2) ho8 (some ⟨j, 0, none⟩) [u1 cls] 1 hl.seen (by rw [List.length_append, List.length_cons, hso.out, heo.out]; simp) hb.size
        simp only [List.length_singleton] at hrun
        refine Lib.wp_append_run wc _ _ _ _ rfl _ _ rfl rfl v9 wd hrun ?_
        have hb := ho8.grew hb (Nat.le_refl _) hb.size hg9
        clear hl hg9 hat9 hrun ho8
        simp only [Act.put, List.setIfInBounds_toArray, List.set_cons_zero, List.set_cons_succ]
        refine hF.out _ _ (hS2.since hb) (fun _ => ?_)
        clear hF F
        refine wpAnyH_take (i := 10) (oi := Oper.mk (some 5) _ _ _ _ _) (v := ?_) rfl (by kernel_rfl) (by kernel_rfl) (by kernel_rfl) (fun _ _ _ h => h) (Or.inl ⟨by rfl, ?_⟩) (hS2.since hb) ?_
        rotate_left
        · intro w hSw
          go_simp
          try with_reducible rfl
        simp only [Act.put, List.setIfInBounds_toArray, List.set_cons_zero, List.set_cons_succ]
        try dsimp only
        refine wpAnyH_done (by kernel_rfl) ?_ _
        obtain ⟨L, hL⟩ : ∃ L, u1 11 :: octs 4 n ++ octs 2 m2 ++ [u1 cls] = L := ⟨_, rfl⟩
        have hLl : L.length = 8 := by rw [← hL, List.length_append, List.length_append, List.length_cons, hso.out, heo.out]; rfl
        have ho9 : Own wd w2.heap.size v9 L := by rw [← hL]; exact ho9
        replace hL := Lib.hid hL
        replace hLl := Lib.hid hLl
        clear hso heo
        go_wp2
        go_loopw [5, 6] (fun v t W => Below w2.heap.size w2 W ∧ ∃ i : Nat, t = .int .i64 i ∧ ((i = 0 ∧ Own W w2.heap.size v L) ∨ (i = 1 ∧ Own W w2.heap.size v (L ++ octs 2 (sign x0))) ∨ (i = 2 ∧ Own W w2.heap.size v ((L ++ octs 2 (sign x0)) ++ octs 2 (sign x1))) ∨ (i = 3 ∧ Own W w2.heap.size v (((L ++ octs 2 (sign x0)) ++ octs 2 (sign x1)) ++ octs 2 (sign x2))) ∨ (i = 4 ∧ Own W w2.heap.size v ((((L ++ octs 2 (sign x0)) ++ octs 2 (sign x1)) ++ octs 2 (sign x2)) ++ octs 2 (sign x3))))) (fun _ t _ => 4 - (intOf t).toNat)
        case atStart => exact ⟨hb, 0, rfl, .inl ⟨rfl, ho9⟩⟩
        case round =>
          clear hb ho9
          obtain ⟨hb, i, rfl, ⟨rfl, ho⟩ | ⟨rfl, ho⟩ | ⟨rfl, ho⟩ | ⟨rfl, ho⟩ | ⟨rfl, ho⟩⟩ := hrel
          · simp only [show ((0 : Nat) : Int) = 0 from rfl]
            obtain ⟨c0, c1, c2, c3, c4, c5, c6, c7, c8, c9, c10, c11⟩ := mv_cells (hS2.since hb).1
            obtain ⟨s1, hs1⟩ : ∃ s1, sign x0 = s1 := ⟨_, rfl⟩
            have hso := octs_len 2 s1
            go_wp2_with fail
            refine (rputInt_ok x0 s1 _ (by omega) (by omega) hs1).mono ?_
            rintro e wa ⟨v6, rfl, ho6, hb6⟩
            have ho := ho.since hb6
            have hb := hb.trans (hb6.mono hb.size)
            obtain ⟨A6, c6', rfl, hs6⟩ := ho6.seen_at hso
            replace hso := Lib.hid hso
            clear ho6 hb6 c0 c1 c2 c3 c4 c5 c6 c7 c8 c9 c10 c11
            have hlen : (L).length ≤ 20 := by simp [hLl.out, octs_len]
            go_wp2_with (at_builtin; refine wpList_append_own_any _ rfl _ _ rfl w2.heap.size _ L rfl ho A6 2 c6' rfl (octs 2 s1) hso.out hs6 (by rw [hso.out]; omega) hb.size ?_)
            intro v7 w7 ho7 hg7 hat7
            have hb7 := ho.grew hb (Nat.le_refl _) hb.size hg7
            have ho8 : Own w7 w2.heap.size v7 (L ++ octs 2 (sign x0)) := by rw [hs1]; simpa using ho7
            clear ho hb hs6 hg7 hat7 ho7 hso hs1 hlen
            go_wp2
            go_roundw
            case rel => exact ⟨hb7, 1, rfl, .inr (.inl ⟨rfl, ho8⟩)⟩
            case measure => simp [intOf]
          · simp only [show ((1 : Nat) : Int) = 1 from rfl]
            obtain ⟨c0, c1, c2, c3, c4, c5, c6, c7, c8, c9, c10, c11⟩ := mv_cells (hS2.since hb).1
            obtain ⟨s1, hs1⟩ : ∃ s1, sign x1 = s1 := ⟨_, rfl⟩
            have hso := octs_len 2 s1
            go_wp2_with fail
            refine (rputInt_ok x1 s1 _ (by omega) (by omega) hs1).mono ?_
            rintro e wa ⟨v6, rfl, ho6, hb6⟩
            have ho := ho.since hb6
            have hb := hb.trans (hb6.mono hb.size)
            obtain ⟨A6, c6', rfl, hs6⟩ := ho6.seen_at hso
            replace hso := Lib.hid hso
            clear ho6 hb6 c0 c1 c2 c3 c4 c5 c6 c7 c8 c9 c10 c11
            have hlen : ((L ++ octs 2 (sign x0))).length ≤ 20 := by simp [hLl.out, octs_len]
            go_wp2_with (at_builtin; refine wpList_append_own_any _ rfl _ _ rfl w2.heap.size _ (L ++ octs 2 (sign x0)) rfl ho A6 2 c6' rfl (octs 2 s1) hso.out hs6 (by rw [hso.out]; omega) hb.size ?_)
            intro v7 w7 ho7 hg7 hat7
            have hb7 := ho.grew hb (Nat.le_refl _) hb.size hg7
            have ho8 : Own w7 w2.heap.size v7 ((L ++ octs 2 (sign x0)) ++ octs 2 (sign x1)) := by rw [hs1]; simpa using ho7
            clear ho hb hs6 hg7 hat7 ho7 hso hs1 hlen
            go_wp2
            go_roundw
            case rel => exact ⟨hb7, 2, rfl, .inr (.inr (.inl ⟨rfl, ho8⟩))⟩
            case measure => simp [intOf]
          · simp only [show ((2 : Nat) : Int) = 2 from rfl]
            obtain ⟨c0, c1, c2, c3, c4, c5, c6, c7, c8, c9, c10, c11⟩ := mv_cells (hS2.since hb).1
            obtain ⟨s1, hs1⟩ : ∃ s1, sign x2 = s1 := ⟨_, rfl⟩
            have hso := octs_len 2 s1
            go_wp2_with fail
            refine (rputInt_ok x2 s1 _ (by omega) (by omega) hs1).mono ?_
            rintro e wa ⟨v6, rfl, ho6, hb6⟩
            have ho := ho.since hb6
            have hb := hb.trans (hb6.mono hb.size)
            obtain ⟨A6, c6', rfl, hs6⟩ := ho6.seen_at hso
            replace hso := Lib.hid hso
            clear ho6 hb6 c0 c1 c2 c3 c4 c5 c6 c7 c8 c9 c10 c11
            have hlen : (((L ++ octs 2 (sign x0)) ++ octs 2 (sign x1))).length ≤ 20 := by simp [hLl.out, octs_len]
            go_wp2_with (at_builtin; refine wpList_append_own_any _ rfl _ _ rfl w2.heap.size _ ((L ++ octs 2 (sign x0)) ++ octs 2 (sign x1)) rfl ho A6 2 c6' rfl (octs 2 s1) hso.out hs6 (by rw [hso.out]; omega) hb.size ?_)
            intro v7 w7 ho7 hg7 hat7
            have hb7 := ho.grew hb (Nat.le_refl _) hb.size hg7
            have ho8 : Own w7 w2.heap.size v7 (((L ++ octs 2 (sign x0)) ++ octs 2 (sign x1)) ++ octs 2 (sign x2)) := by rw [hs1]; simpa using ho7
            clear ho hb hs6 hg7 hat7 ho7 hso hs1 hlen
            go_wp2
            go_roundw
            case rel => exact ⟨hb7, 3, rfl, .inr (.inr (.inr (.inl ⟨rfl, ho8⟩)))⟩
            case measure => simp [intOf]
          · simp only [show ((3 : Nat) : Int) = 3 from rfl]
            obtain ⟨c0, c1, c2, c3, c4, c5, c6, c7, c8, c9, c10, c11⟩ := mv_cells (hS2.since hb).1
            obtain ⟨s1, hs1⟩ : ∃ s1, sign x3 = s1 := ⟨_, rfl⟩
            have hso := octs_len 2 s1
            go_wp2_with fail
            refine (rputInt_ok x3 s1 _ (by omega) (by omega) hs1).mono ?_
            rintro e wa ⟨v6, rfl, ho6, hb6⟩
            have ho := ho.since hb6
            have hb := hb.trans (hb6.mono hb.size)
            obtain ⟨A6, c6', rfl, hs6⟩ := ho6.seen_at hso
            replace hso := Lib.hid hso
            clear ho6 hb6 c0 c1 c2 c3 c4 c5 c6 c7 c8 c9 c10 c11
            have hlen : ((((L ++ octs 2 (sign x0)) ++ octs 2 (sign x1)) ++ octs 2 (sign x2))).length ≤ 20 := by simp [hLl.out, octs_len]
            go_wp2_with (at_builtin; refine wpList_append_own_any _ rfl _ _ rfl w2.heap.size _ (((L ++ octs 2 (sign x0)) ++ octs 2 (sign x1)) ++ octs 2 (sign x2)) rfl ho A6 2 c6' rfl (octs 2 s1) hso.out hs6 (by rw [hso.out]; omega) hb.size ?_)
            intro v7 w7 ho7 hg7 hat7
            have hb7 := ho.grew hb (Nat.le_refl _) hb.size hg7
            have ho8 : Own w7 w2.heap.size v7 ((((L ++ octs 2 (sign x0)) ++ octs 2 (sign x1)) ++ octs 2 (sign x2)) ++ octs 2 (sign x3)) := by rw [hs1]; simpa using ho7
            clear ho hb hs6 hg7 hat7 ho7 hso hs1 hlen
            go_wp2
            go_roundw
            case rel => exact ⟨hb7, 4, rfl, .inr (.inr (.inr (.inr (⟨rfl, ho8⟩))))⟩
            case measure => simp [intOf]
          · simp only [show ((4 : Nat) : Int) = 4 from rfl]
            have hw7 := hS2.2.trans (hb.mono hS2.2.size)
            have hz := hS2.2.size
            clear hS2 hb
            go_wp2
            go_ret2
            exact ⟨_, rfl, by have h := ho.mono hz; rw [← hL.out] at h; simpa [msgB, List.append_assoc] using h, hw7⟩
    · go_simp
      have hl := lit_one W cls (by omega)
      have hne : ∀ k, v5.ownBlock = some k → k < W.heap.size := fun k e => (ho.lt e).2
      have ho := ho.alloc (.cells #[.int .u8 cls] 5)
      have hb := hb.alloc hb.size (.cells #[.int .u8 cls] 5)
      obtain ⟨j, hj⟩ : ∃ j, W.heap.size = j := ⟨_, rfl⟩
      rw [hj] at hl hne
      rw [hj]
      refine hF.out _ _ (hS2.since hb) (fun _ => ?_)
      clear hF F hj
      generalize W.alloc (.cells #[.int .u8 cls] 5) = Wx at hb ho hl ⊢
      refine wpAnyH_ready (rs := [3]) (by kernel_rfl) (by simp) ?_
      refine AllReadyH.cons (o := Oper.mk (some 86) _ _ _ _ _) rfl (fun F hF => ?_) AllReadyH.nil
      go_simp
      refine (rput_ok (m2 : Int) 2 m2 2 _ rfl rfl (by decide) (by omega) (by omega)).mono ?_
      rintro e wa ⟨v6, rfl, ho6, hb6⟩
      have ho := ho.since hb6
      have hb := hb.trans (hb6.mono hb.size)
      obtain ⟨A6, c6', rfl, hs6⟩ := ho6.seen_at heo.out
      have hl := hl.since hb6
      clear ho6
      dsimp only
      refine hF.out _ _ (hS2.since hb) (fun _ => ?_)
      clear hF F
      refine wpAnyH_ready (rs := [4]) (by kernel_rfl) (by simp) ?_
      refine AllReadyH.cons (o := Oper.mk (some 87) _ _ _ _ _) rfl (fun F hF => ?_) AllReadyH.nil
      rw [if_pos (by rfl)]
      obtain ⟨v8, wc, hrun, ho8, hg8, hat8⟩ := append_own wa w2.heap.size 29 _ (u1 11 :: octs 4 n) ho A6 (octs 2 m2) c6' hs6 (by rw [List.length_cons, hso.out, heo.out]; decide) hb.size
      rw [heo.out] at hrun
      refine Lib.wp_append_run wa _ _ _ _ rfl _ _ rfl rfl v8 wc hrun ?_
      have hl := hl.grown hg8 fun e => by have := hne _ e.symm; omega
      have hb := ho.grew hb (Nat.le_refl _) hb.size hg8
      clear hs6 hg8 hat8 hrun ho hne
      simp only [Act.put, List.setIfInBounds_toArray, List.set_cons_zero, List.set_cons_succ]
      refine hF.out _ _ (hS2.since hb) (fun _ => ?_)
      clear hF F
      refine wpAnyH_ready (rs := [9]) (by kernel_rfl) (by simp) ?_
      refine AllReadyH.cons (o := Oper.mk (some 92) _ _ _ _ _) rfl (fun F hF => ?_) AllReadyH.nil
      rw [if_pos (by rfl)]
      obtain ⟨v9, wd, hrun, ho9, hg9, hat9⟩ := append_own wc w2.heap.size 29 _ (u1 11 :: octs 4 n ++ octs 2 m2) ho8 (some ⟨j, 0, none⟩) [u1 cls] 1 hl.seen (by rw [List.length_append, List.length_cons, hso.out, heo.out]; simp) hb.size
      simp only [List.length_singleton] at hrun
      refine Lib.wp_append_run wc _ _ _ _ rfl _ _ rfl rfl v9 wd hrun ?_
      have hb := ho8.grew hb (Nat.le_refl _) hb.size hg9
      clear hl hg9 hat9 hrun ho8
      simp only [Act.put, List.setIfInBounds_toArray, List.set_cons_zero, List.set_cons_succ]
      refine hF.out _ _ (hS2.since hb) (fun _ => ?_)
      clear hF F
      refine wpAnyH_take (i := 10) (oi := Oper.mk (some 5) _ _ _ _ _) (v := ?_) rfl (by kernel_rfl) (by kernel_rfl) (by kernel_rfl) (fun _ _ _ h => h) (Or.inl ⟨by rfl, ?_⟩) (hS2.since hb) ?_
      rotate_left
      · intro w hSw
        go_simp
        try with_reducible rfl
      simp only [Act.put, List.setIfInBounds_toArray, List.set_cons_zero, List.set_cons_succ]
      try dsimp only
      refine wpAnyH_done (by kernel_rfl) ?_ _
      obtain ⟨L, hL⟩ : ∃ L, u1 11 :: octs 4 n ++ octs 2 m2 ++ [u1 cls] = L := ⟨_, rfl⟩
      have hLl : L.length = 8 := by rw [← hL, List.length_append, List.length_append, List.length_cons, hso.out, heo.out]; rfl
      have ho9 : Own wd w2.heap.size v9 L := by rw [← hL]; exact ho9
      replace hL := Lib.hid hL
      replace hLl := Lib.hid hLl
      clear hso heo
      go_wp2
      go_loopw [5, 6] (fun v t W => Below w2.heap.size w2 W ∧ ∃ i : Nat, t = .int .i64 i ∧ ((i = 0 ∧ Own W w2.heap.size v L) ∨ (i = 1 ∧ Own W w2.heap.size v (L ++ octs 2 (sign x0))) ∨ (i = 2 ∧ Own W w2.heap.size v ((L ++ octs 2 (sign x0)) ++ octs 2 (sign x1))) ∨ (i = 3 ∧ Own W w2.heap.size v (((L ++ octs 2 (sign x0)) ++ octs 2 (sign x1)) ++ octs 2 (sign x2))) ∨ (i = 4 ∧ Own W w2.heap.size v ((((L ++ octs 2 (sign x0)) ++ octs 2 (sign x1)) ++ octs 2 (sign x2)) ++ octs 2 (sign x3))))) (fun _ t _ => 4 - (intOf t).toNat)
      case atStart => exact ⟨hb, 0, rfl, .inl ⟨rfl, ho9⟩⟩
      case round =>
        clear hb ho9
        obtain ⟨hb, i, rfl, ⟨rfl, ho⟩ | ⟨rfl, ho⟩ | ⟨rfl, ho⟩ | ⟨rfl, ho⟩ | ⟨rfl, ho⟩⟩ := hrel
        · simp only [show ((0 : Nat) : Int) = 0 from rfl]
          obtain ⟨c0, c1, c2, c3, c4, c5, c6, c7, c8, c9, c10, c11⟩ := mv_cells (hS2.since hb).1
          obtain ⟨s1, hs1⟩ : ∃ s1, sign x0 = s1 := ⟨_, rfl⟩
          have hso := octs_len 2 s1
          go_wp2_with fail
          refine (rputInt_ok x0 s1 _ (by omega) (by omega) hs1).mono ?_
          rintro e wa ⟨v6, rfl, ho6, hb6⟩
          have ho := ho.since hb6
          have hb := hb.trans (hb6.mono hb.size)
          obtain ⟨A6, c6', rfl, hs6⟩ := ho6.seen_at hso
          replace hso := Lib.hid hso
          clear ho6 hb6 c0 c1 c2 c3 c4 c5 c6 c7 c8 c9 c10 c11
          have hlen : (L).length ≤ 20 := by simp [hLl.out, octs_len]
          go_wp2_with (at_builtin; refine wpList_append_own_any _ rfl _ _ rfl w2.heap.size _ L rfl ho A6 2 c6' rfl (octs 2 s1) hso.out hs6 (by rw [hso.out]; omega) hb.size ?_)
          intro v7 w7 ho7 hg7 hat7
          have hb7 := ho.grew hb (Nat.le_refl _) hb.size hg7
          have ho8 : Own w7 w2.heap.size v7 (L ++ octs 2 (sign x0)) := by rw [hs1]; simpa using ho7
          clear ho hb hs6 hg7 hat7 ho7 hso hs1 hlen
          go_wp2
          go_roundw
          case rel => exact ⟨hb7, 1, rfl, .inr (.inl ⟨rfl, ho8⟩)⟩
          case measure => simp [intOf]
        · simp only [show ((1 : Nat) : Int) = 1 from rfl]
          obtain ⟨c0, c1, c2, c3, c4, c5, c6, c7, c8, c9, c10, c11⟩ := mv_cells (hS2.since hb).1
          obtain ⟨s1, hs1⟩ : ∃ s1, sign x1 = s1 := ⟨_, rfl⟩
          have hso := octs_len 2 s1
          go_wp2_with fail
          refine (rputInt_ok x1 s1 _ (by omega) (by omega) hs1).mono ?_
          rintro e wa ⟨v6, rfl, ho6, hb6⟩
          have ho := ho.since hb6
          have hb := hb.trans (hb6.mono hb.size)
          obtain ⟨A6, c6', rfl, hs6⟩ := ho6.seen_at hso
          replace hso := Lib.hid hso
          clear ho6 hb6 c0 c1 c2 c3 c4 c5 c6 c7 c8 c9 c10 c11
          have hlen : ((L ++ octs 2 (sign x0))).length ≤ 20 := by simp [hLl.out, octs_len]
          go_wp2_with (at_builtin; refine wpList_append_own_any _ rfl _ _ rfl w2.heap.size _ (L ++ octs 2 (sign x0)) rfl ho A6 2 c6' rfl (octs 2 s1) hso.out hs6 (by rw [hso.out]; omega) hb.size ?_)
          intro v7 w7 ho7 hg7 hat7
          have hb7 := ho.grew hb (Nat.le_refl _) hb.size hg7
          have ho8 : Own w7 w2.heap.size v7 ((L ++ octs 2 (sign x0)) ++ octs 2 (sign x1)) := by rw [hs1]; simpa using ho7
          clear ho hb hs6 hg7 hat7 ho7 hso hs1 hlen
          go_wp2
          go_roundw
          case rel => exact ⟨hb7, 2, rfl, .inr (.inr (.inl ⟨rfl, ho8⟩))⟩
          case measure => simp [intOf]
        · simp only [show ((2 : Nat) : Int) = 2 from rfl]
          obtain ⟨c0, c1, c2, c3, c4, c5, c6, c7, c8, c9, c10, c11⟩ := mv_cells (hS2.since hb).1
          obtain ⟨s1, hs1⟩ : ∃ s1, sign x2 = s1 := ⟨_, rfl⟩
          have hso := octs_len 2 s1
          go_wp2_with fail
          refine (rputInt_ok x2 s1 _ (by omega) (by omega) hs1).mono ?_
          rintro e wa ⟨v6, rfl, ho6, hb6⟩
          have ho := ho.since hb6
          have hb := hb.trans (hb6.mono hb.size)
          obtain ⟨A6, c6', rfl, hs6⟩ := ho6.seen_at hso
          replace hso := Lib.hid hso
          clear ho6 hb6 c0 c1 c2 c3 c4 c5 c6 c7 c8 c9 c10 c11
          have hlen : (((L ++ octs 2 (sign x0)) ++ octs 2 (sign x1))).length ≤ 20 := by simp [hLl.out, octs_len]
          go_wp2_with (at_builtin; refine wpList_append_own_any _ rfl _ _ rfl w2.heap.size _ ((L ++ octs 2 (sign x0)) ++ octs 2 (sign x1)) rfl ho A6 2 c6' rfl (octs 2 s1) hso.out hs6 (by rw [hso.out]; omega) hb.size ?_)
          intro v7 w7 ho7 hg7 hat7
          have hb7 := ho.grew hb (Nat.le_refl _) hb.size hg7
          have ho8 : Own w7 w2.heap.size v7 (((L ++ octs 2 (sign x0)) ++ octs 2 (sign x1)) ++ octs 2 (sign x2)) := by rw [hs1]; simpa using ho7
          clear ho hb hs6 hg7 hat7 ho7 hso hs1 hlen
          go_wp2
          go_roundw
          case rel => exact ⟨hb7, 3, rfl, .inr (.inr (.inr (.inl ⟨rfl, ho8⟩)))⟩
          case measure => simp [intOf]
        · simp only [show ((3 : Nat) : Int) = 3 from rfl]
          obtain ⟨c0, c1, c2, c3, c4, c5, c6, c7, c8, c9, c10, c11⟩ := mv_cells (hS2.since hb).1
          obtain ⟨s1, hs1⟩ : ∃ s1, sign x3 = s1 := ⟨_, rfl⟩
          have hso := octs_len 2 s1
          go_wp2_with fail
          refine (rputInt_ok x3 s1 _ (by omega) (by omega) hs1).mono ?_
          rintro e wa ⟨v6, rfl, ho6, hb6⟩
          have ho := ho.since hb6
          have hb := hb.trans (hb6.mono hb.size)
          obtain ⟨A6, c6', rfl, hs6⟩ := ho6.seen_at hso
          replace hso := Lib.hid hso
          clear ho6 hb6 c0 c1 c2 c3 c4 c5 c6 c7 c8 c9 c10 c11
          have hlen : ((((L ++ octs 2 (sign x0)) ++ octs 2 (sign x1)) ++ octs 2 (sign x2))).length ≤ 20 := by simp [hLl.out, octs_len]
          go_wp2_with (at_builtin; refine wpList_append_own_any _ rfl _ _ rfl w2.heap.size _ (((L ++ octs 2 (sign x0)) ++ octs 2 (sign x1)) ++ octs 2 (sign x2)) rfl ho A6 2 c6' rfl (octs 2 s1) hso.out hs6 (by rw [hso.out]; omega) hb.size ?_)
          intro v7 w7 ho7 hg7 hat7
          have hb7 := ho.grew hb (Nat.le_refl _) hb.size hg7
          have ho8 : Own w7 w2.heap.size v7 ((((L ++ octs 2 (sign x0)) ++ octs 2 (sign x1)) ++ octs 2 (sign x2)) ++ octs 2 (sign x3)) := by rw [hs1]; simpa using ho7
          clear ho hb hs6 hg7 hat7 ho7 hso hs1 hlen
          go_wp2
          go_roundw
          case rel => exact ⟨hb7, 4, rfl, .inr (.inr (.inr (.inr (⟨rfl, ho8⟩))))⟩
          case measure => simp [intOf]
        · simp only [show ((4 : Nat) : Int) = 4 from rfl]
          have hw7 := hS2.2.trans (hb.mono hS2.2.size)
          have hz := hS2.2.size
          clear hS2 hb
          go_wp2
          go_ret2
          exact ⟨_, rfl, by have h := ho.mono hz; rw [← hL.out] at h; simpa [msgB, List.append_assoc] using h, hw7⟩
/-- whatever it is handed -/
theorem refPut_ok (m : M) (w : World) : Calls Try.prog 12 #[.agg (mv m).toArray] w fun e w' => ∃ v, e = .returned (.tuple #[v, .int .i64 (codeM m)]) ∧ Own w' w.heap.size v (bytesM m) ∧ Below w.heap.size w w' := by
  cases h : okM m with
  | false =>
    rw [(code_no h).1, (code_no h).2]
    refine (refPut_no m w h).mono ?_
    rintro e w' ⟨rfl, hb⟩
    exact ⟨_, rfl, Own.none_ _ _, hb⟩
  | true =>
    rw [(code_ok h).1, (code_ok h).2]
    have hk := (okM_parts h).2.1
    have all : m.kind = 1 ∨ m.kind = 2 ∨ m.kind = 3 ∨ m.kind = 4 ∨ m.kind = 5 ∨ m.kind = 6 ∨ m.kind = 7 ∨ m.kind = 8 ∨ m.kind = 9 ∨ m.kind = 10 ∨ m.kind = 11 := by omega
    rcases all with e | e | e | e | e | e | e | e | e | e | e
    · exact refPut_roles m w h (.inl e)
    · exact refPut_roles m w h (.inr e)
    · exact refPut_seqs m w h (.inl e)
    · exact refPut_seqs m w h (.inr (.inl e))
    · exact refPut_5 m w h e
    · exact refPut_6 m w h e
    · exact refPut_7 m w h e
    · exact refPut_seqs m w h (.inr (.inr (.inl e)))
    · exact refPut_seqs m w h (.inr (.inr (.inr e)))
    · exact refPut_10 m w h e
    · exact refPut_11 m w h e
end Go.Proofs.Ytmibgmcgicphoaa.msg
