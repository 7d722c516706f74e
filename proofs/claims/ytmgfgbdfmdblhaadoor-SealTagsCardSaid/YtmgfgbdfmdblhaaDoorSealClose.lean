/-
  THE CONTRACTS OF seal's Close AND Open.
-/
import Derived.Test.YtmgfgbdfmdblhaaDoorSealCode2
namespace Go.Proofs.YtmgfgbdfmdblhaaDoor.sealed
open Go.RowKit Go.Proofs.YtmgfgbdfmdblhaaDoor.octets Go.Proofs.YtmgfgbdfmdblhaaDoor.sha Go.Proofs.YtmgfgbdfmdblhaaDoor.mac
set_option linter.unusedVariables false
set_option linter.unusedSimpArgs false

theorem Parts.since {w w' : World} {pb : Nat} {L : List (List UInt8)} (h : Parts w pb L) (hb : Below w.heap.size w w') (hpb : pb < w.heap.size) : Parts w' pb L := fun i hi => by
  obtain ⟨A, n, c, h1, h2, h3⟩ := h i hi
  exact ⟨A, n, c, (hb.cell (p := ⟨pb, i, none⟩) hpb).trans h1, h2, h3.since hb⟩
set_option maxRecDepth 100000 in
set_option maxHeartbeats 4000000 in
theorem close_ok (key : List UInt8) (B : Option Addr) (n c : Nat) (b : List UInt8) (s : Int) (w : World) (hk : key.length = 32) (hl : b.length = n) (hc : n ≤ c) (hn : n ≤ 1000000) (sb : Seen w B b) (hK : Table w) :
    Calls Tryd.prog 7 #[.agg (vals key).toArray, .int .i64 s, .slice B n c] w fun e w' => ∃ v, e = .returned v ∧ Own w' w.heap.size v (closeB key s b) ∧ Below w.heap.size w w' := by
  have hw0 : Below w.heap.size w (w.alloc (.cells (vals key).toArray 22)) := by go_grown
  have hX0 := Arr.new w (vals key) 22
  have hkl : Hid ((vals key).length = 32) := Lib.hid (by rw [vals_len, hk])
  have hfe : [[u8i s], b].flatten = u8i s :: b := by simp
  obtain ⟨T, hT⟩ : ∃ T, tagB key (77 :: u8i s :: b) = T := ⟨_, rfl⟩
  have htl8 : Hid (T.length = 8) := Lib.hid (by rw [← hT]; exact tagB_len _ _)
  have htl : Hid ((vals T).length = 8) := Lib.hid (by rw [vals_len, htl8.out])
  have htk : Unit → tagB key (77 :: [[u8i s], b].flatten) = T := fun _ => by rw [hfe, hT]
  have hfl : Hid ((77 :: [[u8i s], b].flatten).length = n + 2) := Lib.hid (by rw [hfe]; simp [hl])
  have hfl2 : Hid (([[u8i s], b].flatten).length ≤ 1048576) := Lib.hid (by rw [hfe]; simp [hl]; omega)
  rw [show closeB key s b = b ++ T by rw [closeB, hT]]
  clear hT hfe
  replace hk := Lib.hid hk
  replace hl := Lib.hid hl
  have hcut := cut32 w.heap.size
  go_enter Tryd.func7, Tryd.ntmps7
  go_wp2_with fail
  have hw : Below w.heap.size w (w.alloc (.cells (vals key).toArray 22)).drew := hw0.drew
  have hk0 : Arr (w.alloc (.cells (vals key).toArray 22)).drew w.heap.size (vals key) := hX0.drew
  clear hw0 hX0
  refine wp_region_held_drew (S := fun _ => True) (by kernel_rfl) True.intro (fun _ => ?_)
  refine wpAnyH_take (i := 0) (oi := Oper.mk (some 8) _ _ _ _ _) (v := ?_) rfl (by kernel_rfl) (by kernel_rfl) (by kernel_rfl) (fun _ _ _ h => h) (Or.inl ⟨by rfl, ?_⟩) True.intro ?_
  rotate_left
  · intro w hSw
    go_simp
    try with_reducible rfl
  simp only [Act.put, List.setIfInBounds_toArray, List.set_cons_zero, List.set_cons_succ]
  try dsimp only
  refine wpAnyH_take (i := 1) (oi := Oper.mk (some 9) _ _ _ _ _) (v := ?_) rfl (by kernel_rfl) (by kernel_rfl) (by kernel_rfl) (fun _ _ _ h => h) (Or.inl ⟨by rfl, ?_⟩) True.intro ?_
  rotate_left
  · intro w hSw
    go_simp
    try with_reducible rfl
  simp only [Act.put, List.setIfInBounds_toArray, List.set_cons_zero, List.set_cons_succ]
  try dsimp only
  refine wpAnyH_take (i := 3) (oi := Oper.mk (some 11) _ _ _ _ _) (v := ?_) rfl (by kernel_rfl) (by kernel_rfl) (by kernel_rfl) (fun _ _ _ h => h) (Or.inl ⟨by rfl, ?_⟩) True.intro ?_
  rotate_left
  · intro w hSw
    go_simp
    try with_reducible rfl
  simp only [Act.put, List.setIfInBounds_toArray, List.set_cons_zero, List.set_cons_succ]
  try dsimp only
  generalize (w.alloc (.cells (vals key).toArray 22)).drew = V0 at hw hk0 ⊢
  have hv : Below V0.heap.size V0 V0 := Below.refl _ _
  clear hcut
  refine wpAnyH_ready (rs := [2, 7]) (by kernel_rfl) (by simp) ?_
  refine AllReadyH.cons (o := Oper.mk (some 10) _ _ _ _ _) rfl (fun F hF => ?_) (AllReadyH.cons (o := Oper.mk (some 7) _ _ _ _ _) rfl (fun F hF => ?_) AllReadyH.nil)
  · skip
    go_simp
    (with_reducible refine (low_1 s _).mono ?_)
    rintro e V1 ⟨b1, rfl, hx1, s1, hb1⟩
    replace hv := hv.trans (hb1.mono hv.size)
    clear hb1 hx1
    try dsimp only
    refine hF.out _ _ True.intro (fun _ => ?_)
    clear hF F
    refine wpAnyH_ready (rs := [4, 7]) (by kernel_rfl) (by simp) ?_
    refine AllReadyH.cons (o := Oper.mk (some 12) _ _ _ _ _) rfl (fun F hF => ?_) (AllReadyH.cons (o := Oper.mk (some 7) _ _ _ _ _) rfl (fun F hF => ?_) AllReadyH.nil)
    · skip
      go_simp
      have hb1 : Below V1.heap.size V1 (V1.alloc (.cells #[.slice (some ⟨b1, 0, none⟩) 1 1, .slice B n c] 23)) := (Below.refl _ _).alloc (Nat.le_refl _) _
      have hP := parts2 (two_first V1 (.slice (some ⟨b1, 0, none⟩) 1 1) (.slice B n c) 23 (0, 0)) (two_second V1 (.slice (some ⟨b1, 0, none⟩) 1 1) (.slice B n c) 23 (0, 0)) rfl hl.out (s1.since hb1) ((sb.since (hw.trans (hv.mono hw.size))).since hb1)
      replace hv := hv.trans (hb1.mono hv.size)
      have hpb : V1.heap.size < (V1.alloc (.cells #[.slice (some ⟨b1, 0, none⟩) 1 1, .slice B n c] 23)).heap.size := by simp
      clear hb1 s1
      try dsimp only
      refine hF.out _ _ True.intro (fun _ => ?_)
      clear hF F
      generalize V1.heap.size = pb at hP hpb ⊢
      generalize V1.alloc (.cells #[.slice (some ⟨b1, 0, none⟩) 1 1, .slice B n c] 23) = V2 at hP hpb hv ⊢
      refine wpAnyH_ready (rs := [5, 7]) (by kernel_rfl) (by simp) ?_
      refine AllReadyH.cons (o := Oper.mk (some 13) _ _ _ _ _) rfl (fun F hF => ?_) (AllReadyH.cons (o := Oper.mk (some 7) _ _ _ _ _) rfl (fun F hF => ?_) AllReadyH.nil)
      · skip
        go_simp
        refine (joined_ok 77 77 rfl pb 2 2 [[u8i s], b] _ rfl (by decide) hfl2.out hP hpb).mono ?_
        rintro e V3 ⟨v4, rfl, ho4, hb1⟩
        obtain ⟨A3, c3, rfl, s3⟩ := ho4.seen_at (k := n + 2) hfl.out
        replace hv := hv.trans (hb1.mono hv.size)
        clear hb1 hP hpb ho4
        try dsimp only
        refine hF.out _ _ True.intro (fun _ => ?_)
        clear hF F
        refine wpAnyH_ready (rs := [6, 7]) (by kernel_rfl) (by simp) ?_
        refine AllReadyH.cons (o := Oper.mk (some 14) _ _ _ _ _) rfl (fun F hF => ?_) (AllReadyH.cons (o := Oper.mk (some 7) _ _ _ _ _) rfl (fun F hF => ?_) AllReadyH.nil)
        · skip
          go_simp
          have hkey := Arr.seen (hk0.since hv)
          have hK1 := hK.since (hw.trans (hv.mono hw.size))
          refine (tag_ok (some ⟨w.heap.size, 0, none⟩) A3 32 32 (n + 2) c3 key (77 :: [[u8i s], b].flatten) _ hk.out hfl.out (by decide) (by omega) hkey s3 hK1).mono ?_
          rintro e V4 ⟨rfl, hb1⟩
          rw [htk ()]
          replace hv := hv.trans (hb1.mono hv.size)
          clear hb1 hkey hK1 s3
          try dsimp only
          refine hF.out _ _ True.intro (fun _ => ?_)
          clear hF F
          refine wpAnyH_ready (rs := [7]) (by kernel_rfl) (by simp) ?_
          refine AllReadyH.cons (o := Oper.mk (some 7) _ _ _ _ _) rfl (fun F hF => ?_) AllReadyH.nil
          go_simp
          have hQ := Arr.new_at V4 z8b #[.int .u8 0, .int .u8 0, .int .u8 0, .int .u8 0, .int .u8 0, .int .u8 0, .int .u8 0, .int .u8 0] 29 rfl
          have hqz0 : V0.heap.size ≤ V4.heap.size := hv.size
          have hb1 : Below V4.heap.size V4 (V4.alloc (.cells #[.int .u8 0, .int .u8 0, .int .u8 0, .int .u8 0, .int .u8 0, .int .u8 0, .int .u8 0, .int .u8 0] 29)) := (Below.refl _ _).alloc (Nat.le_refl _) _
          replace hv := hv.trans (hb1.mono hv.size)
          clear hb1
          try dsimp only
          refine hF.out _ _ True.intro (fun _ => ?_)
          clear hF F
          obtain ⟨q1, hq1⟩ : ∃ q1, V4.heap.size = q1 := ⟨_, rfl⟩
          rw [hq1] at hQ
          have hqz : V0.heap.size ≤ q1 := by omega
          rw [hq1]
          clear hq1 hqz0
          generalize V4.alloc (.cells #[.int .u8 0, .int .u8 0, .int .u8 0, .int .u8 0, .int .u8 0, .int .u8 0, .int .u8 0, .int .u8 0] 29) = V5 at hv hQ ⊢
          refine wpAnyH_ready (rs := [8]) (by kernel_rfl) (by simp) ?_
          refine AllReadyH.cons (o := Oper.mk (none) _ _ _ _ _) rfl (fun F hF => ?_) AllReadyH.nil
          refine wp_store_arr (cs' := vals T) 8 rfl rfl rfl hQ (by kernel_rfl) rfl htl.out (vals_one _) ?_
          intro V6 hR ho1 hb1 hs1
          replace hv := hv.trans (hb1.mono hqz)
          try dsimp only
          refine hF.out _ _ True.intro (fun _ => ?_)
          clear hF F hQ ho1 hb1 hs1
          refine wpAnyH_done (by kernel_rfl) ?_ _
          have hw1 := hw.trans (hv.mono hw.size)
          have hcut8 := cut_own8 q1
          have hb2 : Below V6.heap.size V6 (V6.alloc (.cells #[.slice B n c, .slice (some ⟨q1, 0, none⟩) 8 8] 23)) := (Below.refl _ _).alloc (Nat.le_refl _) _
          have s1 := (sb.since hw1).since hb2
          have s2 := (Arr.seen hR).since hb2
          have hpb : V6.heap.size < (V6.alloc (.cells #[.slice B n c, .slice (some ⟨q1, 0, none⟩) 8 8] 23)).heap.size := by simp
          have hw2 := hw1.trans (hb2.mono hw1.size)
          clear hb2 hR hv
          go_wp2_with fail
          refine (concat_ok V6.heap.size B (some ⟨q1, 0, none⟩) n c 8 8 b T _ hl.out htl8.out (by omega) (by decide) s1 s2 (two_first ..) (two_second ..) hpb).mono ?_
          rintro e wz ⟨v, rfl, ho, hb3⟩
          have hw3 := hw2.trans (hb3.mono hw2.size)
          replace ho := ho.mono (base' := w.heap.size) hw2.size
          clear s1 s2 hpb hb3 hw2
          go_wp2
          go_ret
          exact ⟨v, rfl, ho, hw3⟩
        · skip
          go_simp
          have hQ := Arr.new_at V3 z8b #[.int .u8 0, .int .u8 0, .int .u8 0, .int .u8 0, .int .u8 0, .int .u8 0, .int .u8 0, .int .u8 0] 29 rfl
          have hqz0 : V0.heap.size ≤ V3.heap.size := hv.size
          have hb1 : Below V3.heap.size V3 (V3.alloc (.cells #[.int .u8 0, .int .u8 0, .int .u8 0, .int .u8 0, .int .u8 0, .int .u8 0, .int .u8 0, .int .u8 0] 29)) := (Below.refl _ _).alloc (Nat.le_refl _) _
          replace hv := hv.trans (hb1.mono hv.size)
          replace s3 := s3.since hb1
          clear hb1
          try dsimp only
          refine hF.out _ _ True.intro (fun _ => ?_)
          clear hF F
          obtain ⟨q1, hq1⟩ : ∃ q1, V3.heap.size = q1 := ⟨_, rfl⟩
          rw [hq1] at hQ
          have hqz : V0.heap.size ≤ q1 := by omega
          rw [hq1]
          clear hq1 hqz0
          generalize V3.alloc (.cells #[.int .u8 0, .int .u8 0, .int .u8 0, .int .u8 0, .int .u8 0, .int .u8 0, .int .u8 0, .int .u8 0] 29) = V4 at hv hQ s3 ⊢
          refine wpAnyH_ready (rs := [6]) (by kernel_rfl) (by simp) ?_
          refine AllReadyH.cons (o := Oper.mk (some 14) _ _ _ _ _) rfl (fun F hF => ?_) AllReadyH.nil
          go_simp
          have hkey := Arr.seen (hk0.since hv)
          have hK1 := hK.since (hw.trans (hv.mono hw.size))
          refine (tag_ok (some ⟨w.heap.size, 0, none⟩) A3 32 32 (n + 2) c3 key (77 :: [[u8i s], b].flatten) _ hk.out hfl.out (by decide) (by omega) hkey s3 hK1).mono ?_
          rintro e V5 ⟨rfl, hb1⟩
          rw [htk ()]
          replace hQ := hQ.since hb1
          replace hv := hv.trans (hb1.mono hv.size)
          clear hb1 hkey hK1 s3
          try dsimp only
          refine hF.out _ _ True.intro (fun _ => ?_)
          clear hF F
          refine wpAnyH_ready (rs := [8]) (by kernel_rfl) (by simp) ?_
          refine AllReadyH.cons (o := Oper.mk (none) _ _ _ _ _) rfl (fun F hF => ?_) AllReadyH.nil
          refine wp_store_arr (cs' := vals T) 8 rfl rfl rfl hQ (by kernel_rfl) rfl htl.out (vals_one _) ?_
          intro V6 hR ho1 hb1 hs1
          replace hv := hv.trans (hb1.mono hqz)
          try dsimp only
          refine hF.out _ _ True.intro (fun _ => ?_)
          clear hF F hQ ho1 hb1 hs1
          refine wpAnyH_done (by kernel_rfl) ?_ _
          have hw1 := hw.trans (hv.mono hw.size)
          have hcut8 := cut_own8 q1
          have hb2 : Below V6.heap.size V6 (V6.alloc (.cells #[.slice B n c, .slice (some ⟨q1, 0, none⟩) 8 8] 23)) := (Below.refl _ _).alloc (Nat.le_refl _) _
          have s1 := (sb.since hw1).since hb2
          have s2 := (Arr.seen hR).since hb2
          have hpb : V6.heap.size < (V6.alloc (.cells #[.slice B n c, .slice (some ⟨q1, 0, none⟩) 8 8] 23)).heap.size := by simp
          have hw2 := hw1.trans (hb2.mono hw1.size)
          clear hb2 hR hv
          go_wp2_with fail
          refine (concat_ok V6.heap.size B (some ⟨q1, 0, none⟩) n c 8 8 b T _ hl.out htl8.out (by omega) (by decide) s1 s2 (two_first ..) (two_second ..) hpb).mono ?_
          rintro e wz ⟨v, rfl, ho, hb3⟩
          have hw3 := hw2.trans (hb3.mono hw2.size)
          replace ho := ho.mono (base' := w.heap.size) hw2.size
          clear s1 s2 hpb hb3 hw2
          go_wp2
          go_ret
          exact ⟨v, rfl, ho, hw3⟩
      · skip
        go_simp
        have hQ := Arr.new_at V2 z8b #[.int .u8 0, .int .u8 0, .int .u8 0, .int .u8 0, .int .u8 0, .int .u8 0, .int .u8 0, .int .u8 0] 29 rfl
        have hqz0 : V0.heap.size ≤ V2.heap.size := hv.size
        have hb1 : Below V2.heap.size V2 (V2.alloc (.cells #[.int .u8 0, .int .u8 0, .int .u8 0, .int .u8 0, .int .u8 0, .int .u8 0, .int .u8 0, .int .u8 0] 29)) := (Below.refl _ _).alloc (Nat.le_refl _) _
        replace hv := hv.trans (hb1.mono hv.size)
        replace hP := hP.since hb1 hpb
        replace hpb := Nat.lt_of_lt_of_le hpb hb1.size
        clear hb1
        try dsimp only
        refine hF.out _ _ True.intro (fun _ => ?_)
        clear hF F
        obtain ⟨q1, hq1⟩ : ∃ q1, V2.heap.size = q1 := ⟨_, rfl⟩
        rw [hq1] at hQ
        have hqz : V0.heap.size ≤ q1 := by omega
        rw [hq1]
        clear hq1 hqz0
        generalize V2.alloc (.cells #[.int .u8 0, .int .u8 0, .int .u8 0, .int .u8 0, .int .u8 0, .int .u8 0, .int .u8 0, .int .u8 0] 29) = V3 at hv hQ hP hpb ⊢
        refine wpAnyH_ready (rs := [5]) (by kernel_rfl) (by simp) ?_
        refine AllReadyH.cons (o := Oper.mk (some 13) _ _ _ _ _) rfl (fun F hF => ?_) AllReadyH.nil
        go_simp
        refine (joined_ok 77 77 rfl pb 2 2 [[u8i s], b] _ rfl (by decide) hfl2.out hP hpb).mono ?_
        rintro e V4 ⟨v4, rfl, ho4, hb1⟩
        obtain ⟨A3, c3, rfl, s3⟩ := ho4.seen_at (k := n + 2) hfl.out
        replace hQ := hQ.since hb1
        replace hv := hv.trans (hb1.mono hv.size)
        clear hb1 hP hpb ho4
        try dsimp only
        refine hF.out _ _ True.intro (fun _ => ?_)
        clear hF F
        refine wpAnyH_ready (rs := [6]) (by kernel_rfl) (by simp) ?_
        refine AllReadyH.cons (o := Oper.mk (some 14) _ _ _ _ _) rfl (fun F hF => ?_) AllReadyH.nil
        go_simp
        have hkey := Arr.seen (hk0.since hv)
        have hK1 := hK.since (hw.trans (hv.mono hw.size))
        refine (tag_ok (some ⟨w.heap.size, 0, none⟩) A3 32 32 (n + 2) c3 key (77 :: [[u8i s], b].flatten) _ hk.out hfl.out (by decide) (by omega) hkey s3 hK1).mono ?_
        rintro e V5 ⟨rfl, hb1⟩
        rw [htk ()]
        replace hQ := hQ.since hb1
        replace hv := hv.trans (hb1.mono hv.size)
        clear hb1 hkey hK1 s3
        try dsimp only
        refine hF.out _ _ True.intro (fun _ => ?_)
        clear hF F
        refine wpAnyH_ready (rs := [8]) (by kernel_rfl) (by simp) ?_
        refine AllReadyH.cons (o := Oper.mk (none) _ _ _ _ _) rfl (fun F hF => ?_) AllReadyH.nil
        refine wp_store_arr (cs' := vals T) 8 rfl rfl rfl hQ (by kernel_rfl) rfl htl.out (vals_one _) ?_
        intro V6 hR ho1 hb1 hs1
        replace hv := hv.trans (hb1.mono hqz)
        try dsimp only
        refine hF.out _ _ True.intro (fun _ => ?_)
        clear hF F hQ ho1 hb1 hs1
        refine wpAnyH_done (by kernel_rfl) ?_ _
        have hw1 := hw.trans (hv.mono hw.size)
        have hcut8 := cut_own8 q1
        have hb2 : Below V6.heap.size V6 (V6.alloc (.cells #[.slice B n c, .slice (some ⟨q1, 0, none⟩) 8 8] 23)) := (Below.refl _ _).alloc (Nat.le_refl _) _
        have s1 := (sb.since hw1).since hb2
        have s2 := (Arr.seen hR).since hb2
        have hpb : V6.heap.size < (V6.alloc (.cells #[.slice B n c, .slice (some ⟨q1, 0, none⟩) 8 8] 23)).heap.size := by simp
        have hw2 := hw1.trans (hb2.mono hw1.size)
        clear hb2 hR hv
        go_wp2_with fail
        refine (concat_ok V6.heap.size B (some ⟨q1, 0, none⟩) n c 8 8 b T _ hl.out htl8.out (by omega) (by decide) s1 s2 (two_first ..) (two_second ..) hpb).mono ?_
        rintro e wz ⟨v, rfl, ho, hb3⟩
        have hw3 := hw2.trans (hb3.mono hw2.size)
        replace ho := ho.mono (base' := w.heap.size) hw2.size
        clear s1 s2 hpb hb3 hw2
        go_wp2
        go_ret
        exact ⟨v, rfl, ho, hw3⟩
    · skip
      go_simp
      have hQ := Arr.new_at V1 z8b #[.int .u8 0, .int .u8 0, .int .u8 0, .int .u8 0, .int .u8 0, .int .u8 0, .int .u8 0, .int .u8 0] 29 rfl
      have hqz0 : V0.heap.size ≤ V1.heap.size := hv.size
      have hb1 : Below V1.heap.size V1 (V1.alloc (.cells #[.int .u8 0, .int .u8 0, .int .u8 0, .int .u8 0, .int .u8 0, .int .u8 0, .int .u8 0, .int .u8 0] 29)) := (Below.refl _ _).alloc (Nat.le_refl _) _
      replace hv := hv.trans (hb1.mono hv.size)
      replace s1 := s1.since hb1
      clear hb1
      try dsimp only
      refine hF.out _ _ True.intro (fun _ => ?_)
      clear hF F
      obtain ⟨q1, hq1⟩ : ∃ q1, V1.heap.size = q1 := ⟨_, rfl⟩
      rw [hq1] at hQ
      have hqz : V0.heap.size ≤ q1 := by omega
      rw [hq1]
      clear hq1 hqz0
      generalize V1.alloc (.cells #[.int .u8 0, .int .u8 0, .int .u8 0, .int .u8 0, .int .u8 0, .int .u8 0, .int .u8 0, .int .u8 0] 29) = V2 at hv hQ s1 ⊢
      refine wpAnyH_ready (rs := [4]) (by kernel_rfl) (by simp) ?_
      refine AllReadyH.cons (o := Oper.mk (some 12) _ _ _ _ _) rfl (fun F hF => ?_) AllReadyH.nil
      go_simp
      have hb1 : Below V2.heap.size V2 (V2.alloc (.cells #[.slice (some ⟨b1, 0, none⟩) 1 1, .slice B n c] 23)) := (Below.refl _ _).alloc (Nat.le_refl _) _
      have hP := parts2 (two_first V2 (.slice (some ⟨b1, 0, none⟩) 1 1) (.slice B n c) 23 (0, 0)) (two_second V2 (.slice (some ⟨b1, 0, none⟩) 1 1) (.slice B n c) 23 (0, 0)) rfl hl.out (s1.since hb1) ((sb.since (hw.trans (hv.mono hw.size))).since hb1)
      replace hQ := hQ.since hb1
      replace hv := hv.trans (hb1.mono hv.size)
      have hpb : V2.heap.size < (V2.alloc (.cells #[.slice (some ⟨b1, 0, none⟩) 1 1, .slice B n c] 23)).heap.size := by simp
      clear hb1 s1
      try dsimp only
      refine hF.out _ _ True.intro (fun _ => ?_)
      clear hF F
      generalize V2.heap.size = pb at hP hpb ⊢
      generalize V2.alloc (.cells #[.slice (some ⟨b1, 0, none⟩) 1 1, .slice B n c] 23) = V3 at hP hpb hv hQ ⊢
      refine wpAnyH_ready (rs := [5]) (by kernel_rfl) (by simp) ?_
      refine AllReadyH.cons (o := Oper.mk (some 13) _ _ _ _ _) rfl (fun F hF => ?_) AllReadyH.nil
      go_simp
      refine (joined_ok 77 77 rfl pb 2 2 [[u8i s], b] _ rfl (by decide) hfl2.out hP hpb).mono ?_
      rintro e V4 ⟨v4, rfl, ho4, hb1⟩
      obtain ⟨A3, c3, rfl, s3⟩ := ho4.seen_at (k := n + 2) hfl.out
      replace hQ := hQ.since hb1
      replace hv := hv.trans (hb1.mono hv.size)
      clear hb1 hP hpb ho4
      try dsimp only
      refine hF.out _ _ True.intro (fun _ => ?_)
      clear hF F
      refine wpAnyH_ready (rs := [6]) (by kernel_rfl) (by simp) ?_
      refine AllReadyH.cons (o := Oper.mk (some 14) _ _ _ _ _) rfl (fun F hF => ?_) AllReadyH.nil
      go_simp
      have hkey := Arr.seen (hk0.since hv)
      have hK1 := hK.since (hw.trans (hv.mono hw.size))
      refine (tag_ok (some ⟨w.heap.size, 0, none⟩) A3 32 32 (n + 2) c3 key (77 :: [[u8i s], b].flatten) _ hk.out hfl.out (by decide) (by omega) hkey s3 hK1).mono ?_
      rintro e V5 ⟨rfl, hb1⟩
      rw [htk ()]
      replace hQ := hQ.since hb1
      replace hv := hv.trans (hb1.mono hv.size)
      clear hb1 hkey hK1 s3
      try dsimp only
      refine hF.out _ _ True.intro (fun _ => ?_)
      clear hF F
      refine wpAnyH_ready (rs := [8]) (by kernel_rfl) (by simp) ?_
      refine AllReadyH.cons (o := Oper.mk (none) _ _ _ _ _) rfl (fun F hF => ?_) AllReadyH.nil
      refine wp_store_arr (cs' := vals T) 8 rfl rfl rfl hQ (by kernel_rfl) rfl htl.out (vals_one _) ?_
      intro V6 hR ho1 hb1 hs1
      replace hv := hv.trans (hb1.mono hqz)
      try dsimp only
      refine hF.out _ _ True.intro (fun _ => ?_)
      clear hF F hQ ho1 hb1 hs1
      refine wpAnyH_done (by kernel_rfl) ?_ _
      have hw1 := hw.trans (hv.mono hw.size)
      have hcut8 := cut_own8 q1
      have hb2 : Below V6.heap.size V6 (V6.alloc (.cells #[.slice B n c, .slice (some ⟨q1, 0, none⟩) 8 8] 23)) := (Below.refl _ _).alloc (Nat.le_refl _) _
      have s1 := (sb.since hw1).since hb2
      have s2 := (Arr.seen hR).since hb2
      have hpb : V6.heap.size < (V6.alloc (.cells #[.slice B n c, .slice (some ⟨q1, 0, none⟩) 8 8] 23)).heap.size := by simp
      have hw2 := hw1.trans (hb2.mono hw1.size)
      clear hb2 hR hv
      go_wp2_with fail
      refine (concat_ok V6.heap.size B (some ⟨q1, 0, none⟩) n c 8 8 b T _ hl.out htl8.out (by omega) (by decide) s1 s2 (two_first ..) (two_second ..) hpb).mono ?_
      rintro e wz ⟨v, rfl, ho, hb3⟩
      have hw3 := hw2.trans (hb3.mono hw2.size)
      replace ho := ho.mono (base' := w.heap.size) hw2.size
      clear s1 s2 hpb hb3 hw2
      go_wp2
      go_ret
      exact ⟨v, rfl, ho, hw3⟩
  · skip
    go_simp
    have hQ := Arr.new_at V0 z8b #[.int .u8 0, .int .u8 0, .int .u8 0, .int .u8 0, .int .u8 0, .int .u8 0, .int .u8 0, .int .u8 0] 29 rfl
    have hqz0 : V0.heap.size ≤ V0.heap.size := hv.size
    have hb1 : Below V0.heap.size V0 (V0.alloc (.cells #[.int .u8 0, .int .u8 0, .int .u8 0, .int .u8 0, .int .u8 0, .int .u8 0, .int .u8 0, .int .u8 0] 29)) := (Below.refl _ _).alloc (Nat.le_refl _) _
    replace hv := hv.trans (hb1.mono hv.size)
    clear hb1
    try dsimp only
    refine hF.out _ _ True.intro (fun _ => ?_)
    clear hF F
    obtain ⟨q1, hq1⟩ : ∃ q1, V0.heap.size = q1 := ⟨_, rfl⟩
    rw [hq1] at hQ
    have hqz : V0.heap.size ≤ q1 := by omega
    rw [hq1]
    clear hq1 hqz0
    generalize V0.alloc (.cells #[.int .u8 0, .int .u8 0, .int .u8 0, .int .u8 0, .int .u8 0, .int .u8 0, .int .u8 0, .int .u8 0] 29) = V1 at hv hQ ⊢
    refine wpAnyH_ready (rs := [2]) (by kernel_rfl) (by simp) ?_
    refine AllReadyH.cons (o := Oper.mk (some 10) _ _ _ _ _) rfl (fun F hF => ?_) AllReadyH.nil
    go_simp
    (with_reducible refine (low_1 s _).mono ?_)
    rintro e V2 ⟨b1, rfl, hx1, s1, hb1⟩
    replace hQ := hQ.since hb1
    replace hv := hv.trans (hb1.mono hv.size)
    clear hb1 hx1
    try dsimp only
    refine hF.out _ _ True.intro (fun _ => ?_)
    clear hF F
    refine wpAnyH_ready (rs := [4]) (by kernel_rfl) (by simp) ?_
    refine AllReadyH.cons (o := Oper.mk (some 12) _ _ _ _ _) rfl (fun F hF => ?_) AllReadyH.nil
    go_simp
    have hb1 : Below V2.heap.size V2 (V2.alloc (.cells #[.slice (some ⟨b1, 0, none⟩) 1 1, .slice B n c] 23)) := (Below.refl _ _).alloc (Nat.le_refl _) _
    have hP := parts2 (two_first V2 (.slice (some ⟨b1, 0, none⟩) 1 1) (.slice B n c) 23 (0, 0)) (two_second V2 (.slice (some ⟨b1, 0, none⟩) 1 1) (.slice B n c) 23 (0, 0)) rfl hl.out (s1.since hb1) ((sb.since (hw.trans (hv.mono hw.size))).since hb1)
    replace hQ := hQ.since hb1
    replace hv := hv.trans (hb1.mono hv.size)
    have hpb : V2.heap.size < (V2.alloc (.cells #[.slice (some ⟨b1, 0, none⟩) 1 1, .slice B n c] 23)).heap.size := by simp
    clear hb1 s1
    try dsimp only
    refine hF.out _ _ True.intro (fun _ => ?_)
    clear hF F
    generalize V2.heap.size = pb at hP hpb ⊢
    generalize V2.alloc (.cells #[.slice (some ⟨b1, 0, none⟩) 1 1, .slice B n c] 23) = V3 at hP hpb hv hQ ⊢
    refine wpAnyH_ready (rs := [5]) (by kernel_rfl) (by simp) ?_
    refine AllReadyH.cons (o := Oper.mk (some 13) _ _ _ _ _) rfl (fun F hF => ?_) AllReadyH.nil
    go_simp
    refine (joined_ok 77 77 rfl pb 2 2 [[u8i s], b] _ rfl (by decide) hfl2.out hP hpb).mono ?_
    rintro e V4 ⟨v4, rfl, ho4, hb1⟩
    obtain ⟨A3, c3, rfl, s3⟩ := ho4.seen_at (k := n + 2) hfl.out
    replace hQ := hQ.since hb1
    replace hv := hv.trans (hb1.mono hv.size)
    clear hb1 hP hpb ho4
    try dsimp only
    refine hF.out _ _ True.intro (fun _ => ?_)
    clear hF F
    refine wpAnyH_ready (rs := [6]) (by kernel_rfl) (by simp) ?_
    refine AllReadyH.cons (o := Oper.mk (some 14) _ _ _ _ _) rfl (fun F hF => ?_) AllReadyH.nil
    go_simp
    have hkey := Arr.seen (hk0.since hv)
    have hK1 := hK.since (hw.trans (hv.mono hw.size))
    refine (tag_ok (some ⟨w.heap.size, 0, none⟩) A3 32 32 (n + 2) c3 key (77 :: [[u8i s], b].flatten) _ hk.out hfl.out (by decide) (by omega) hkey s3 hK1).mono ?_
    rintro e V5 ⟨rfl, hb1⟩
    rw [htk ()]
    replace hQ := hQ.since hb1
    replace hv := hv.trans (hb1.mono hv.size)
    clear hb1 hkey hK1 s3
    try dsimp only
    refine hF.out _ _ True.intro (fun _ => ?_)
    clear hF F
    refine wpAnyH_ready (rs := [8]) (by kernel_rfl) (by simp) ?_
    refine AllReadyH.cons (o := Oper.mk (none) _ _ _ _ _) rfl (fun F hF => ?_) AllReadyH.nil
    refine wp_store_arr (cs' := vals T) 8 rfl rfl rfl hQ (by kernel_rfl) rfl htl.out (vals_one _) ?_
    intro V6 hR ho1 hb1 hs1
    replace hv := hv.trans (hb1.mono hqz)
    try dsimp only
    refine hF.out _ _ True.intro (fun _ => ?_)
    clear hF F hQ ho1 hb1 hs1
    refine wpAnyH_done (by kernel_rfl) ?_ _
    have hw1 := hw.trans (hv.mono hw.size)
    have hcut8 := cut_own8 q1
    have hb2 : Below V6.heap.size V6 (V6.alloc (.cells #[.slice B n c, .slice (some ⟨q1, 0, none⟩) 8 8] 23)) := (Below.refl _ _).alloc (Nat.le_refl _) _
    have s1 := (sb.since hw1).since hb2
    have s2 := (Arr.seen hR).since hb2
    have hpb : V6.heap.size < (V6.alloc (.cells #[.slice B n c, .slice (some ⟨q1, 0, none⟩) 8 8] 23)).heap.size := by simp
    have hw2 := hw1.trans (hb2.mono hw1.size)
    clear hb2 hR hv
    go_wp2_with fail
    refine (concat_ok V6.heap.size B (some ⟨q1, 0, none⟩) n c 8 8 b T _ hl.out htl8.out (by omega) (by decide) s1 s2 (two_first ..) (two_second ..) hpb).mono ?_
    rintro e wz ⟨v, rfl, ho, hb3⟩
    have hw3 := hw2.trans (hb3.mono hw2.size)
    replace ho := ho.mono (base' := w.heap.size) hw2.size
    clear s1 s2 hpb hb3 hw2
    go_wp2
    go_ret
    exact ⟨v, rfl, ho, hw3⟩
set_option maxRecDepth 100000 in
set_option maxHeartbeats 2000000 in
theorem open_ok (key : List UInt8) (A : Option Addr) (n c : Nat) (l : List UInt8) (s : Int) (w : World) (hk : key.length = 32) (hl : l.length = n) (hc : n ≤ c) (hn : n ≤ 1000000) (hs : Seen w A l) (hK : Table w) :
    Calls Tryd.prog 9 #[.agg (vals key).toArray, .int .i64 s, .slice A n c] w fun e w' => ∃ v, e = .returned (.tuple #[v, .int .i64 (if (openB key s l).isSome = true then 0 else 14)]) ∧ Own w' w.heap.size v ((openB key s l).getD []) ∧ Below w.heap.size w w' := by
  have hw0 : Below w.heap.size w (w.alloc (.cells (vals key).toArray 22)) := by go_grown
  have hX0 := Arr.new w (vals key) 22
  have hkl : Hid ((vals key).length = 32) := Lib.hid (by rw [vals_len, hk])
  by_cases h8 : n < 8
  · rw [open_short (by omega)]
    clear hs hK
    replace hl := Lib.hid hl
    go_enter Tryd.func9, Tryd.ntmps9
    go_wp2
    go_ret2
    exact ⟨_, rfl, Own.none_ _ _, hw0⟩
  · obtain ⟨m, hm⟩ : ∃ m, m = n - 8 := ⟨_, rfl⟩
    have hmi : (n : Int) - 8 = (m : Int) := by omega
    have hmn : m ≤ n := by omega
    have hcut := slice_h A n c m (by omega)
    have htl : (l.take m).length = m := by rw [List.length_take]; omega
    have hst := hs.take m
    have ho1 : 8 ≤ l.length := by omega
    have hop : openB key s l = if closeB key s (l.take m) = l then some (l.take m) else none := by
      unfold openB
      rw [hl, ← hm]
      simp [show 8 ≤ n by omega]
    have hcl : (closeB key s (l.take m)).length = n := by rw [closeB_len, htl]; omega
    clear ho1 hm
    generalize l.take m = b at htl hst hop hcl
    have hs0 := hs.since hw0
    have hst0 := hst.since hw0
    have hK0 := hK.since hw0
    have hhl := Lib.hid hl
    have hht := Lib.hid htl
    have hhc := Lib.hid hcl
    replace hk := Lib.hid hk
    clear hl htl hcl
    by_cases heq : closeB key s b = l
    · rw [hop, if_pos heq]
      replace heq := Lib.hid heq
      clear hop
      go_enter Tryd.func9, Tryd.ntmps9
      go_wp2_with (guard_target =~ wpList _ _ _ (Oper.mk _ (Op.load _ _) _ _ _ _ :: _) _ _; refine wpList_load_arr 32 rfl rfl rfl hX0 (by kernel_rfl) hkl.out ?_)
      refine (close_ok key A m c b s _ hk.out hht.out (by omega) (by omega) hst0 hK0).mono ?_
      rintro e w1 ⟨v1, rfl, ho1, hb1⟩
      obtain ⟨B, d, rfl, s1⟩ := ho1.seen_at (k := n) hhc.out
      have hw1 := hw0.trans (hb1.mono hw0.size)
      have hs1 := hs.since hw1
      have hst1 := hst.since hw1
      clear hb1 ho1 hw0 hX0 hs0 hst0 hK0
      go_wp2_with fail
      refine (same_ok A B n c n d l (closeB key s b) true _ hhl.out hhc.out (by omega) hs1 s1 (by rw [heq.out]; simp)).mono ?_
      rintro e w2 ⟨rfl, q, rfl⟩
      have hw2 := below_drawn hw1 q
      have hst2 : Seen (w1.drewN q) A b := hst1
      clear s1 hs1 hw1 hst1
      generalize w1.drewN q = w2 at hw2 hst2 ⊢
      go_wp2_with fail
      refine (clone_ok A m c b _ hht.out (by omega) hst2).mono ?_
      rintro e w3 ⟨v3, rfl, ho3, hb3⟩
      have hw3 := hw2.trans (hb3.mono hw2.size)
      replace ho3 := ho3.mono (base' := w.heap.size) hw2.size
      clear hb3 hw2 hst2
      go_wp2
      go_ret2
      exact ⟨v3, rfl, ho3, hw3⟩
    · rw [hop, if_neg heq]
      clear hop
      have hne : decide (l = closeB key s b) = false := decide_eq_false (fun e => heq e.symm)
      replace hne := Lib.hid hne
      clear heq
      go_enter Tryd.func9, Tryd.ntmps9
      go_wp2_with (guard_target =~ wpList _ _ _ (Oper.mk _ (Op.load _ _) _ _ _ _ :: _) _ _; refine wpList_load_arr 32 rfl rfl rfl hX0 (by kernel_rfl) hkl.out ?_)
      refine (close_ok key A m c b s _ hk.out hht.out (by omega) (by omega) hst0 hK0).mono ?_
      rintro e w1 ⟨v1, rfl, ho1, hb1⟩
      obtain ⟨B, d, rfl, s1⟩ := ho1.seen_at (k := n) hhc.out
      have hw1 := hw0.trans (hb1.mono hw0.size)
      have hs1 := hs.since hw1
      clear hb1 ho1 hw0 hX0 hs0 hst0 hK0
      go_wp2_with fail
      refine (same_ok A B n c n d l (closeB key s b) false _ hhl.out hhc.out (by omega) hs1 s1 hne.out).mono ?_
      rintro e w2 ⟨rfl, q, rfl⟩
      have hw2 := below_drawn hw1 q
      clear s1 hs1 hw1
      go_wp2
      go_ret2
      exact ⟨_, rfl, Own.none_ _ _, hw2⟩
theorem codeOk : CodeOk where
  nonce := fun A n c k s m w hk hc hn sk hK _ _ => nonce_ok A n c k s m w hk hc hn sk hK
  proof := proof_ok
  key := key_ok
  close := close_ok
  open_ := open_ok
end Go.Proofs.YtmgfgbdfmdblhaaDoor.sealed
