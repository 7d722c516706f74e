/-
  CONTRACT OF msg's reference: Put.
-/
import Derived.Test.YtmibgmcgicphoaaMsgFits
import Derived.Test.YtmibgmcgicphoaaMsgShown
import Derived.Deep.RegionHeld3
namespace Go.Proofs.Ytmibgmcgicphoaa.msg
open Go.RowKit Go.Proofs.Ytmibgmcgicphoaa.octets Go.Proofs.Ytmibgmcgicphoaa.pack
set_option linter.unusedVariables false
set_option linter.unusedSimpArgs false

/-- what holds while the region draws: the cells of the message -/
def Bx (w : World) (g : Nat) (m : M) (W : World) : Prop := Arr W g (mv m) ∧ Below w.heap.size w W
theorem Bx.since {w W W' : World} {g : Nat} {m : M} (h : Bx w g m W) (hb : Below W.heap.size W W') : Bx w g m W' := ⟨h.1.since hb, h.2.trans (hb.mono h.2.size)⟩

set_option maxRecDepth 100000 in
set_option maxHeartbeats 4000000 in
theorem refPut_no (m : M) (w : World) (h : okM m = false) : Calls Try.prog 12 #[.agg (mv m).toArray] w fun e w' => e = .returned (.tuple #[.slice none 0 0, .int .i64 1]) ∧ Below w.heap.size w w' := by
  have hA := Arr.new w (mv m) 24
  have hw := below_new w (.cells (mv m).toArray 24)
  have hfm := fun W => fits_ok m W
  have hnm := fun W => named_ok m W
  obtain ⟨bf, hbf⟩ : ∃ b, fitsM m = b := ⟨_, rfl⟩
  rw [hbf] at hfm
  have hq := fun W => neq_msg (namedM m) m W
  have hnd : bf = true → decide (namedM m = m) = false := fun hb => by
    unfold okM at h
    rw [hbf, hb] at h
    simpa using h
  replace hnd := Lib.hid hnd
  obtain ⟨dd, d1, d2, d3⟩ := rowB_spec (P := Try.prog) (ty := 24) (n := 12) (by kernel_rfl)
  replace d1 := Lib.hid d1
  replace d3 := Lib.hid d3
  clear h hbf
  go_enter Try.func12, Try.ntmps12
  go_wp2_with (guard_target =~ wpList _ _ _ (Oper.mk _ (Op.load _ _) _ _ _ _ :: _) _ _; refine wpList_load_arr 12 rfl rfl rfl hA (by kernel_rfl) rfl ?_)
  generalize w.alloc (.cells (mv m).toArray 24) = W0 at hA hw ⊢
  refine (hfm _).mono ?_
  rintro e w1 ⟨rfl, hb1⟩
  have hS0 : Bx w w.heap.size m w1 := (show Bx w w.heap.size m W0 from ⟨hA, hw⟩).since hb1
  clear hA hw hb1
  generalize w.heap.size = g at hS0 ⊢
  cases bf
  · go_wp2_with fail
    go_quiet (fail)
    have hw := below_drawn hS0.2 nq
    go_wp2
    go_ret2
    exact ⟨rfl, hw⟩
  · have hnd := hnd.out rfl
    rw [hnd] at hq
    clear hfm hnd
    have hD : Bx w g m w1.drew := hS0.since (Below.drew (Below.refl _ _))
    go_wp2_with fail
    refine wp_region_held_drew (S := Bx w g m) (by kernel_rfl) hD (fun _ => ?_)
    refine wpAnyH_take (i := 0) (oi := Oper.mk (some 11) _ _ _ _ _) (v := ?_) rfl (by kernel_rfl) (by kernel_rfl) (by kernel_rfl) (fun _ _ _ h => h) (Or.inl ⟨by rfl, ?_⟩) hD ?_
    rotate_left
    · intro w hSw
      go_simp
      try with_reducible rfl
    simp only [Act.put, List.setIfInBounds_toArray, List.set_cons_zero, List.set_cons_succ]
    try dsimp only
    refine wpAnyH_take (i := 1) (oi := Oper.mk (some 12) _ _ _ _ _) (v := ?_) rfl (by kernel_rfl) (by kernel_rfl) (by kernel_rfl) (fun _ _ _ h => h) (Or.inl ⟨by rfl, ?_⟩) hD ?_
    rotate_left
    · intro w hSw
      go_simp
      try with_reducible rfl
    simp only [Act.put, List.setIfInBounds_toArray, List.set_cons_zero, List.set_cons_succ]
    try dsimp only
    refine wpAnyH_take (i := 2) (oi := Oper.mk (some 13) _ _ _ _ _) (v := ?_) rfl (by kernel_rfl) (by kernel_rfl) (by kernel_rfl) (fun _ _ _ h => h) (Or.inl ⟨by rfl, ?_⟩) hD ?_
    rotate_left
    · intro w hSw
      go_simp
      try with_reducible rfl
    simp only [Act.put, List.setIfInBounds_toArray, List.set_cons_zero, List.set_cons_succ]
    try dsimp only
    refine wpAnyH_take (i := 3) (oi := Oper.mk (some 14) _ _ _ _ _) (v := .agg (mv m).toArray) rfl (by kernel_rfl) (by kernel_rfl) (by kernel_rfl) (fun _ _ _ h => h) (yieldsIf_load_mid rfl _ _ rfl g 0 rfl (mv m) dd (fun w h => h.1.range) d1.out d2 (by rw [d3.out]; rfl)) hD ?_
    simp only [Act.put, List.setIfInBounds_toArray, List.set_cons_zero, List.set_cons_succ]
    try dsimp only
    refine wpAnyH_take (i := 5) (oi := Oper.mk (some 16) _ _ _ _ _) (v := .agg (mv m).toArray) rfl (by kernel_rfl) (by kernel_rfl) (by kernel_rfl) (fun _ _ _ h => h) (yieldsIf_load_mid rfl _ _ rfl g 0 rfl (mv m) dd (fun w h => h.1.range) d1.out d2 (by rw [d3.out]; rfl)) hD ?_
    simp only [Act.put, List.setIfInBounds_toArray, List.set_cons_zero, List.set_cons_succ]
    try dsimp only
    refine wpAnyH_ready (rs := [4]) (by kernel_rfl) (by simp) ?_
    refine AllReadyH.cons rfl (fun K hK => ?_) AllReadyH.nil
    go_simp
    refine (hnm _).mono ?_
    rintro e w2 ⟨rfl, hb2⟩
    have hS2 := hD.since hb2
    clear hb2
    dsimp only
    refine hK.out _ _ hS2 (fun _ => ?_)
    clear hK K
    refine wpAnyH_take (i := 6) (oi := Oper.mk (some 17) _ _ _ _ _) (v := ?_) rfl (by kernel_rfl) (by kernel_rfl) (by kernel_rfl) (fun _ _ _ h => h) (Or.inl ⟨by rfl, ?_⟩) hS2 ?_
    rotate_left
    · intro w hSw
      go_simp
      try with_reducible rfl
    simp only [Act.put, List.setIfInBounds_toArray, List.set_cons_zero, List.set_cons_succ]
    try dsimp only
    refine wpAnyH_take (i := 7) (oi := Oper.mk (some 18) _ _ _ _ _) (v := ?_) rfl (by kernel_rfl) (by kernel_rfl) (by kernel_rfl) (fun _ _ _ h => h) (Or.inl ⟨by rfl, ?_⟩) hS2 ?_
    rotate_left
    · intro w hSw
      go_simp
      try with_reducible rfl
    simp only [Act.put, List.setIfInBounds_toArray, List.set_cons_zero, List.set_cons_succ]
    try dsimp only
    refine wpAnyH_done (by kernel_rfl) ?_ _
    have hw := hS2.2
    go_wp2
    go_ret2
    exact ⟨rfl, hw⟩
end Go.Proofs.Ytmibgmcgicphoaa.msg
