/-
  THE CONTRACTS OF seal's Proof AND Key.
-/
import Derived.Test.YtmgfgbdfmdblhaaDoorSealCode
namespace Go.Proofs.YtmgfgbdfmdblhaaDoor.sealed
open Go.RowKit Go.Proofs.YtmgfgbdfmdblhaaDoor.octets Go.Proofs.YtmgfgbdfmdblhaaDoor.sha Go.Proofs.YtmgfgbdfmdblhaaDoor.mac
set_option linter.unusedVariables false
set_option linter.unusedSimpArgs false

theorem cut_own8 (g : Nat) (W : World) : (Instr.sliceAt 29 (.pointer (some ⟨g, 0, none⟩)) none none none).run Tryd.prog W = .ok (.slice (some ⟨g, 0, none⟩) 8 8) W := by
  have hl : Tryd.prog.arrayLen 29 = 8 := by simp [Program.arrayLen, Tryd.underlying29]
  have he : Tryd.prog.elem 29 = 5 := by simp [Program.elem, Tryd.underlying29]
  have ht : Tryd.prog.underlying 29 = some (.array (Tryd.prog.arrayLen 29) (Tryd.prog.elem 29)) := by rw [hl, he]; exact Tryd.underlying29
  rw [run_sliceAt_array_all W _ _ ht, he, hl, size_u8]
  simp [Result.andThen, slicedAt, Addr.add]
set_option maxRecDepth 100000 in
set_option maxHeartbeats 2000000 in
theorem proof_ok (A : Option Addr) (n c : Nat) (k nn : List UInt8) (s r : Int) (w : World) (hk : k.length = n) (hc : n ≤ c) (hn : n ≤ 1048576) (h8 : nn.length = 8) (sk : Seen w A k) (hK : Table w) :
    Calls Tryd.prog 10 #[.slice A n c, .int .i64 s, .int .i64 r, .agg (vals nn).toArray] w fun e w' => e = .returned (.agg (vals (proofB k s r nn)).toArray) ∧ Below w.heap.size w w' := by
  have hw0 : Below w.heap.size w ((w.alloc (.cells (vals nn).toArray 29)).alloc (.cells z8b.toArray 29)) := by go_grown
  have hN0 := (Arr.new w (vals nn) 29).alloc (.cells z8b.toArray 29)
  have hR0 := Arr.new (w.alloc (.cells (vals nn).toArray 29)) z8b 29
  simp only [World.size_alloc] at hR0
  have hzz : Hid (z8b.length = 8) := Lib.hid rfl
  have hnl : Hid ((vals nn).length = 8) := Lib.hid (by rw [vals_len, h8])
  obtain ⟨T, hT⟩ : ∃ T, proofB k s r nn = T := ⟨_, rfl⟩
  rw [hT]
  have htl : Hid (T.length = 8) := Lib.hid (by rw [← hT]; exact tagB_len _ _)
  have hfe : [[u8i s], [u8i r], nn].flatten = u8i s :: u8i r :: nn := by simp
  have htk : Unit → tagB k (80 :: [[u8i s], [u8i r], nn].flatten) = T := fun _ => by rw [hfe, ← hT, proofB]
  have hfl : Hid ((80 :: [[u8i s], [u8i r], nn].flatten).length = 11) := Lib.hid (by simp [h8])
  have hfl2 : Hid (([[u8i s], [u8i r], nn].flatten).length ≤ 1048576) := Lib.hid (by simp [h8])
  clear hT hfe
  replace hk := Lib.hid hk
  replace h8 := Lib.hid h8
  have hcut := cut_own8 w.heap.size
  have hz := hw0.size
  go_enter Tryd.func10, Tryd.ntmps10
  go_wp2_with fail
  generalize hW0 : (World.alloc (World.alloc w _) _) = w0
  have dN : Arr w0.drew w.heap.size (vals nn) := by rw [← hW0]; exact hN0.drew
  have dR : Arr w0.drew (w.heap.size + 1) z8b := by rw [← hW0]; exact hR0.drew
  have dw : Below w.heap.size w w0.drew := by rw [← hW0]; exact hw0.drew
  clear hN0 hR0 hw0 hW0 hz
  have hz := dw.size
  refine wp_region_held_drew (S := fun _ => True) (by kernel_rfl) True.intro (fun _ => ?_)
  refine wpAnyH_take (i := 0) (oi := Oper.mk (some 9) _ _ _ _ _) (v := ?_) rfl (by kernel_rfl) (by kernel_rfl) (by kernel_rfl) (fun _ _ _ h => h) (Or.inl ⟨by rfl, ?_⟩) True.intro ?_
  rotate_left
  · intro w hSw
    go_simp
    try with_reducible rfl
  simp only [Act.put, List.setIfInBounds_toArray, List.set_cons_zero, List.set_cons_succ]
  try dsimp only
  refine wpAnyH_take (i := 1) (oi := Oper.mk (some 10) _ _ _ _ _) (v := ?_) rfl (by kernel_rfl) (by kernel_rfl) (by kernel_rfl) (fun _ _ _ h => h) (Or.inl ⟨by rfl, ?_⟩) True.intro ?_
  rotate_left
  · intro w hSw
    go_simp
    try with_reducible rfl
  simp only [Act.put, List.setIfInBounds_toArray, List.set_cons_zero, List.set_cons_succ]
  try dsimp only
  refine wpAnyH_take (i := 3) (oi := Oper.mk (some 12) _ _ _ _ _) (v := ?_) rfl (by kernel_rfl) (by kernel_rfl) (by kernel_rfl) (fun _ _ _ h => h) (Or.inl ⟨by rfl, ?_⟩) True.intro ?_
  rotate_left
  · intro w hSw
    go_simp
    try with_reducible rfl
  simp only [Act.put, List.setIfInBounds_toArray, List.set_cons_zero, List.set_cons_succ]
  try dsimp only
  refine wpAnyH_take (i := 5) (oi := Oper.mk (some 14) _ _ _ _ _) (v := ?_) rfl (by kernel_rfl) (by kernel_rfl) (by kernel_rfl) (fun _ _ _ h => h) (Or.inl ⟨by rfl, ?_⟩) True.intro ?_
  rotate_left
  · intro w hSw
    go_simp
    try with_reducible rfl
  simp only [Act.put, List.setIfInBounds_toArray, List.set_cons_zero, List.set_cons_succ]
  try dsimp only
  refine wpAnyH_ready (rs := [2]) (by kernel_rfl) (by simp) ?_
  refine AllReadyH.cons (o := Oper.mk (some 11) _ _ _ _ _) rfl (fun F hF => ?_) AllReadyH.nil
  go_simp
  (with_reducible refine (low_1 s _).mono ?_)
  rintro e w1 ⟨b1, rfl, hb1, hs1, hw1⟩
  have hN1 := dN.since hw1
  have hR1 := dR.since hw1
  have hw1' := dw.trans (hw1.mono dw.size)
  clear dN dR dw hw1 hb1
  try dsimp only
  refine hF.out _ _ True.intro (fun _ => ?_)
  clear hF F
  refine wpAnyH_ready (rs := [4]) (by kernel_rfl) (by simp) ?_
  refine AllReadyH.cons (o := Oper.mk (some 13) _ _ _ _ _) rfl (fun F hF => ?_) AllReadyH.nil
  go_simp
  (with_reducible refine (low_1 r _).mono ?_)
  rintro e w2 ⟨b2, rfl, hb2, hs2, hw2⟩
  have hN2 := hN1.since hw2
  have hR2 := hR1.since hw2
  have hs1' := hs1.since hw2
  have hw2' := hw1'.trans (hw2.mono hw1'.size)
  clear hN1 hR1 hw1' hw2 hb2 hs1
  try dsimp only
  refine hF.out _ _ True.intro (fun _ => ?_)
  clear hF F
  refine wpAnyH_ready (rs := [6]) (by kernel_rfl) (by simp) ?_
  refine AllReadyH.cons (o := Oper.mk (some 15) _ _ _ _ _) rfl (fun F hF => ?_) AllReadyH.nil
  go_simp
  have hb3 : Below w2.heap.size w2 (w2.alloc (.cells #[.slice (some ⟨b1, 0, none⟩) 1 1, .slice (some ⟨b2, 0, none⟩) 1 1, .slice (some ⟨w.heap.size, 0, none⟩) 8 8] 23)) := (Below.refl _ _).alloc (Nat.le_refl _) _
  have hP := parts3 (cells_of w2 [.slice (some ⟨b1, 0, none⟩) 1 1, .slice (some ⟨b2, 0, none⟩) 1 1, .slice (some ⟨w.heap.size, 0, none⟩) 8 8] 23 0 _ rfl) (cells_of w2 [.slice (some ⟨b1, 0, none⟩) 1 1, .slice (some ⟨b2, 0, none⟩) 1 1, .slice (some ⟨w.heap.size, 0, none⟩) 8 8] 23 1 _ rfl) (cells_of w2 [.slice (some ⟨b1, 0, none⟩) 1 1, .slice (some ⟨b2, 0, none⟩) 1 1, .slice (some ⟨w.heap.size, 0, none⟩) 8 8] 23 2 _ rfl) rfl rfl h8.out (hs1'.since hb3) (hs2.since hb3) ((Arr.seen hN2).since hb3)
  have hR3 := hR2.since hb3
  have hw3 := hw2'.trans (hb3.mono hw2'.size)
  have hpb : w2.heap.size < (w2.alloc (.cells #[.slice (some ⟨b1, 0, none⟩) 1 1, .slice (some ⟨b2, 0, none⟩) 1 1, .slice (some ⟨w.heap.size, 0, none⟩) 8 8] 23)).heap.size := by simp
  clear hR2 hw2' hs1' hs2 hN2 hb3
  try dsimp only
  refine hF.out _ _ True.intro (fun _ => ?_)
  clear hF F
  refine wpAnyH_ready (rs := [7]) (by kernel_rfl) (by simp) ?_
  refine AllReadyH.cons (o := Oper.mk (some 16) _ _ _ _ _) rfl (fun F hF => ?_) AllReadyH.nil
  go_simp
  refine (joined_ok 80 80 rfl w2.heap.size 3 3 [[u8i s], [u8i r], nn] _ rfl (by decide) hfl2.out hP hpb).mono ?_
  rintro e w4 ⟨v4, rfl, ho4, hw4⟩
  obtain ⟨B, d, rfl, hs4⟩ := ho4.seen_at (k := 11) hfl.out
  have hR4 := hR3.since hw4
  have hw4' := hw3.trans (hw4.mono hw3.size)
  have hK4 := hK.since hw4'
  have sk4 := sk.since hw4'
  clear hP hpb hR3 hw3 hw4 ho4
  try dsimp only
  refine hF.out _ _ True.intro (fun _ => ?_)
  clear hF F
  refine wpAnyH_ready (rs := [8]) (by kernel_rfl) (by simp) ?_
  refine AllReadyH.cons (o := Oper.mk (some 17) _ _ _ _ _) rfl (fun F hF => ?_) AllReadyH.nil
  go_simp
  refine (tag_ok A B n c 11 d k (80 :: [[u8i s], [u8i r], nn].flatten) _ hk.out hfl.out hn (by decide) sk4 hs4 hK4).mono ?_
  rintro e w5 ⟨rfl, hw5⟩
  rw [htk ()]
  have hR5 := hR4.since hw5
  have hw5' := hw4'.trans (hw5.mono hw4'.size)
  clear hR4 hw4' hw5 hK4 sk4 hs4
  try dsimp only
  refine hF.out _ _ True.intro (fun _ => ?_)
  clear hF F
  refine wpAnyH_ready (rs := [9]) (by kernel_rfl) (by simp) ?_
  refine AllReadyH.cons (o := Oper.mk (none) _ _ _ _ _) rfl (fun F hF => ?_) AllReadyH.nil
  refine wp_store_arr (cs' := vals T) 8 rfl rfl rfl hR5 (by kernel_rfl) hzz.out (by rw [vals_len, htl.out]) (vals_one _) ?_
  intro w6 hR6 ho6 hb6 hs6
  have hw6 := hw5'.trans (hb6.mono (by omega))
  clear hR5 hw5' ho6 hb6 hs6
  refine hF.out _ _ True.intro (fun _ => ?_)
  clear hF F
  refine wpAnyH_done (by kernel_rfl) ?_ _
  go_wp2
  exact ret_arr rfl (w.heap.size + 1) _ _ rfl hR6 Tryd.underlying29 rfl (by rw [vals_len, htl.out]; kernel_rfl) rfl ⟨rfl, hw6⟩
set_option maxRecDepth 100000 in
set_option maxHeartbeats 2000000 in
theorem key_ok (A : Option Addr) (n c : Nat) (k nn : List UInt8) (s r : Int) (w : World) (hk : k.length = n) (hc : n ≤ c) (hn : n ≤ 1048576) (h8 : nn.length = 8) (sk : Seen w A k) (hK : Table w) :
    Calls Tryd.prog 11 #[.slice A n c, .int .i64 s, .int .i64 r, .agg (vals nn).toArray] w fun e w' => e = .returned (.agg (vals (keyW k s r nn)).toArray) ∧ Below w.heap.size w w' := by
  have hw0 : Below w.heap.size w ((w.alloc (.cells (vals nn).toArray 29)).alloc (.cells z32.toArray 22)) := by go_grown
  have hN0 := (Arr.new w (vals nn) 29).alloc (.cells z32.toArray 22)
  have hR0 := Arr.new (w.alloc (.cells (vals nn).toArray 29)) z32 22
  simp only [World.size_alloc] at hR0
  have hzz : Hid (z32.length = 32) := Lib.hid rfl
  have hnl : Hid ((vals nn).length = 8) := Lib.hid (by rw [vals_len, h8])
  obtain ⟨T, hT⟩ : ∃ T, keyW k s r nn = T := ⟨_, rfl⟩
  rw [hT]
  have htl : Hid (T.length = 32) := Lib.hid (by rw [← hT]; exact macB_len _ _)
  have hfe : [[u8i s], [u8i r], nn].flatten = u8i s :: u8i r :: nn := by simp
  have htk : Unit → macB k (75 :: [[u8i s], [u8i r], nn].flatten) = T := fun _ => by rw [hfe, ← hT, keyW]
  have hfl : Hid ((75 :: [[u8i s], [u8i r], nn].flatten).length = 11) := Lib.hid (by simp [h8])
  have hfl2 : Hid (([[u8i s], [u8i r], nn].flatten).length ≤ 1048576) := Lib.hid (by simp [h8])
  clear hT hfe
  replace hk := Lib.hid hk
  replace h8 := Lib.hid h8
  have hcut := cut_own8 w.heap.size
  have hz := hw0.size
  go_enter Tryd.func11, Tryd.ntmps11
  go_wp2_with fail
  generalize hW0 : (World.alloc (World.alloc w _) _) = w0
  have dN : Arr w0.drew w.heap.size (vals nn) := by rw [← hW0]; exact hN0.drew
  have dR : Arr w0.drew (w.heap.size + 1) z32 := by rw [← hW0]; exact hR0.drew
  have dw : Below w.heap.size w w0.drew := by rw [← hW0]; exact hw0.drew
  clear hN0 hR0 hw0 hW0 hz
  have hz := dw.size
  refine wp_region_held_drew (S := fun _ => True) (by kernel_rfl) True.intro (fun _ => ?_)
  refine wpAnyH_take (i := 0) (oi := Oper.mk (some 9) _ _ _ _ _) (v := ?_) rfl (by kernel_rfl) (by kernel_rfl) (by kernel_rfl) (fun _ _ _ h => h) (Or.inl ⟨by rfl, ?_⟩) True.intro ?_
  rotate_left
  · intro w hSw
    go_simp
    try with_reducible rfl
  simp only [Act.put, List.setIfInBounds_toArray, List.set_cons_zero, List.set_cons_succ]
  try dsimp only
  refine wpAnyH_take (i := 1) (oi := Oper.mk (some 10) _ _ _ _ _) (v := ?_) rfl (by kernel_rfl) (by kernel_rfl) (by kernel_rfl) (fun _ _ _ h => h) (Or.inl ⟨by rfl, ?_⟩) True.intro ?_
  rotate_left
  · intro w hSw
    go_simp
    try with_reducible rfl
  simp only [Act.put, List.setIfInBounds_toArray, List.set_cons_zero, List.set_cons_succ]
  try dsimp only
  refine wpAnyH_take (i := 3) (oi := Oper.mk (some 12) _ _ _ _ _) (v := ?_) rfl (by kernel_rfl) (by kernel_rfl) (by kernel_rfl) (fun _ _ _ h => h) (Or.inl ⟨by rfl, ?_⟩) True.intro ?_
  rotate_left
  · intro w hSw
    go_simp
    try with_reducible rfl
  simp only [Act.put, List.setIfInBounds_toArray, List.set_cons_zero, List.set_cons_succ]
  try dsimp only
  refine wpAnyH_take (i := 5) (oi := Oper.mk (some 14) _ _ _ _ _) (v := ?_) rfl (by kernel_rfl) (by kernel_rfl) (by kernel_rfl) (fun _ _ _ h => h) (Or.inl ⟨by rfl, ?_⟩) True.intro ?_
  rotate_left
  · intro w hSw
    go_simp
    try with_reducible rfl
  simp only [Act.put, List.setIfInBounds_toArray, List.set_cons_zero, List.set_cons_succ]
  try dsimp only
  refine wpAnyH_ready (rs := [2]) (by kernel_rfl) (by simp) ?_
  refine AllReadyH.cons (o := Oper.mk (some 11) _ _ _ _ _) rfl (fun F hF => ?_) AllReadyH.nil
  go_simp
  (with_reducible refine (low_1 s _).mono ?_)
  rintro e w1 ⟨b1, rfl, hb1, hs1, hw1⟩
  have hN1 := dN.since hw1
  have hR1 := dR.since hw1
  have hw1' := dw.trans (hw1.mono dw.size)
  clear dN dR dw hw1 hb1
  try dsimp only
  refine hF.out _ _ True.intro (fun _ => ?_)
  clear hF F
  refine wpAnyH_ready (rs := [4]) (by kernel_rfl) (by simp) ?_
  refine AllReadyH.cons (o := Oper.mk (some 13) _ _ _ _ _) rfl (fun F hF => ?_) AllReadyH.nil
  go_simp
  (with_reducible refine (low_1 r _).mono ?_)
  rintro e w2 ⟨b2, rfl, hb2, hs2, hw2⟩
  have hN2 := hN1.since hw2
  have hR2 := hR1.since hw2
  have hs1' := hs1.since hw2
  have hw2' := hw1'.trans (hw2.mono hw1'.size)
  clear hN1 hR1 hw1' hw2 hb2 hs1
  try dsimp only
  refine hF.out _ _ True.intro (fun _ => ?_)
  clear hF F
  refine wpAnyH_ready (rs := [6]) (by kernel_rfl) (by simp) ?_
  refine AllReadyH.cons (o := Oper.mk (some 15) _ _ _ _ _) rfl (fun F hF => ?_) AllReadyH.nil
  go_simp
  have hb3 : Below w2.heap.size w2 (w2.alloc (.cells #[.slice (some ⟨b1, 0, none⟩) 1 1, .slice (some ⟨b2, 0, none⟩) 1 1, .slice (some ⟨w.heap.size, 0, none⟩) 8 8] 23)) := (Below.refl _ _).alloc (Nat.le_refl _) _
  have hP := parts3 (cells_of w2 [.slice (some ⟨b1, 0, none⟩) 1 1, .slice (some ⟨b2, 0, none⟩) 1 1, .slice (some ⟨w.heap.size, 0, none⟩) 8 8] 23 0 _ rfl) (cells_of w2 [.slice (some ⟨b1, 0, none⟩) 1 1, .slice (some ⟨b2, 0, none⟩) 1 1, .slice (some ⟨w.heap.size, 0, none⟩) 8 8] 23 1 _ rfl) (cells_of w2 [.slice (some ⟨b1, 0, none⟩) 1 1, .slice (some ⟨b2, 0, none⟩) 1 1, .slice (some ⟨w.heap.size, 0, none⟩) 8 8] 23 2 _ rfl) rfl rfl h8.out (hs1'.since hb3) (hs2.since hb3) ((Arr.seen hN2).since hb3)
  have hR3 := hR2.since hb3
  have hw3 := hw2'.trans (hb3.mono hw2'.size)
  have hpb : w2.heap.size < (w2.alloc (.cells #[.slice (some ⟨b1, 0, none⟩) 1 1, .slice (some ⟨b2, 0, none⟩) 1 1, .slice (some ⟨w.heap.size, 0, none⟩) 8 8] 23)).heap.size := by simp
  clear hR2 hw2' hs1' hs2 hN2 hb3
  try dsimp only
  refine hF.out _ _ True.intro (fun _ => ?_)
  clear hF F
  refine wpAnyH_ready (rs := [7]) (by kernel_rfl) (by simp) ?_
  refine AllReadyH.cons (o := Oper.mk (some 16) _ _ _ _ _) rfl (fun F hF => ?_) AllReadyH.nil
  go_simp
  refine (joined_ok 75 75 rfl w2.heap.size 3 3 [[u8i s], [u8i r], nn] _ rfl (by decide) hfl2.out hP hpb).mono ?_
  rintro e w4 ⟨v4, rfl, ho4, hw4⟩
  obtain ⟨B, d, rfl, hs4⟩ := ho4.seen_at (k := 11) hfl.out
  have hR4 := hR3.since hw4
  have hw4' := hw3.trans (hw4.mono hw3.size)
  have hK4 := hK.since hw4'
  have sk4 := sk.since hw4'
  clear hP hpb hR3 hw3 hw4 ho4
  try dsimp only
  refine hF.out _ _ True.intro (fun _ => ?_)
  clear hF F
  refine wpAnyH_ready (rs := [8]) (by kernel_rfl) (by simp) ?_
  refine AllReadyH.cons (o := Oper.mk (some 17) _ _ _ _ _) rfl (fun F hF => ?_) AllReadyH.nil
  go_simp
  refine (of_ok A B n c 11 d k (75 :: [[u8i s], [u8i r], nn].flatten) _ hk.out hfl.out hn (by decide) sk4 hs4 hK4).mono ?_
  rintro e w5 ⟨rfl, hw5⟩
  rw [htk ()]
  have hR5 := hR4.since hw5
  have hw5' := hw4'.trans (hw5.mono hw4'.size)
  clear hR4 hw4' hw5 hK4 sk4 hs4
  try dsimp only
  refine hF.out _ _ True.intro (fun _ => ?_)
  clear hF F
  refine wpAnyH_ready (rs := [9]) (by kernel_rfl) (by simp) ?_
  refine AllReadyH.cons (o := Oper.mk (none) _ _ _ _ _) rfl (fun F hF => ?_) AllReadyH.nil
  refine wp_store_arr (cs' := vals T) 32 rfl rfl rfl hR5 (by kernel_rfl) hzz.out (by rw [vals_len, htl.out]) (vals_one _) ?_
  intro w6 hR6 ho6 hb6 hs6
  have hw6 := hw5'.trans (hb6.mono (by omega))
  clear hR5 hw5' ho6 hb6 hs6
  refine hF.out _ _ True.intro (fun _ => ?_)
  clear hF F
  refine wpAnyH_done (by kernel_rfl) ?_ _
  go_wp2
  exact ret_arr rfl (w.heap.size + 1) _ _ rfl hR6 Tryd.underlying22 rfl (by rw [vals_len, htl.out]; kernel_rfl) rfl ⟨rfl, hw6⟩
end Go.Proofs.YtmgfgbdfmdblhaaDoor.sealed
