/-
  THE CONTRACT OF mac's Of.
-/
import Derived.Test.YtmgfgbdfmdblhaaDoorMac
namespace Go.Proofs.YtmgfgbdfmdblhaaDoor.mac
open Go.RowKit Go.Proofs.YtmgfgbdfmdblhaaDoor.octets Go.Proofs.YtmgfgbdfmdblhaaDoor.sha
set_option linter.unusedVariables false
set_option linter.unusedSimpArgs false
set_option maxRecDepth 100000 in
set_option maxHeartbeats 2000000 in
theorem of_ok (A B : Option Addr) (n c m d : Nat) (k l : List UInt8) (w : World) (hk : k.length = n) (hl : l.length = m) (hn : n ≤ 1048576) (hm : m ≤ 1048000) (sk : Seen w A k) (sl : Seen w B l) (hK : Table w) :
    Calls Tryd.prog 12 #[.slice A n c, .slice B m d] w fun e w' => e = .returned (.agg (vals (macB k l)).toArray) ∧ Below w.heap.size w w' := by
  have hw0 : Below w.heap.size w (w.alloc (.cells z32.toArray 22)) := by go_grown
  have hR0 := Arr.new w z32 22
  have sk0 := sk.since hw0
  have sl0 := sl.since hw0
  have hK0 := hK.since hw0
  have hzl : Hid (zb64.length = 64) := Lib.hid (by simp [zb64])
  obtain ⟨K, hKl, hKK⟩ : ∃ K : List UInt8, K.length = 64 ∧ K = keyB k := ⟨_, keyB_len k, rfl⟩
  replace hKl := Lib.hid hKl
  replace hl := Lib.hid hl
  have hti : Hid ((turnB 54 K).length = 64) := Lib.hid (by rw [turnB_len, hKl.out])
  have hto : Hid ((turnB 92 K).length = 64) := Lib.hid (by rw [turnB_len, hKl.out])
  have hend : Unit → sumB (turnB 92 K ++ sumB (turnB 54 K ++ l)) = macB k l := fun _ => by rw [hKK]; rfl
  go_enter Tryd.func12, Tryd.ntmps12
  go_wp2_with fail
  refine (filled_ok A n c k _ hk hn sk0 hK0).mono ?_
  rintro e w1 ⟨rfl, hw1⟩
  rw [← hKK]
  replace hKK : Unit → K = keyB k := fun _ => hKK
  have hR1 := hR0.since hw1
  have sl1 := sl0.since hw1
  have hw1' := hw0.trans (hw1.mono hw0.size)
  have hz1 := hw1'.size
  have hlt1 := hR1.lt
  clear hR0 sl0 hw0 hw1 sk0 hK0 sk hk hn
  have hX0 := Arr.new w1 zb64 47
  go_wp2_with (guard_target =~ wpList _ _ _ (Oper.mk _ (Op.store _ _ _) _ _ _ _ :: _) _ _; refine wpList_store_arr (cs' := vals K) 64 rfl rfl rfl rfl hX0 (by kernel_rfl) hzl.out (by rw [vals_len, hKl.out]) (vals_one _) ?_)
  intro w2 hX2 ho2 hb2 hs2
  have hR2 := (hR1.alloc (.cells zb64.toArray 47)).of_block (ho2 _ (by omega))
  have hw2 := (hw1'.alloc hz1 (.cells zb64.toArray 47)).trans (hb2.mono hz1)
  have sl2 := sl.since hw2
  clear hX0 hR1 sl1 hw1' ho2 hb2 hs2
  generalize w1.heap.size = g at hX2 hz1 hlt1 ⊢
  go_wp2_with (guard_target =~ wpList _ _ _ (Oper.mk _ (Op.load _ _) _ _ _ _ :: _) _ _; refine wpList_load_arr 64 rfl rfl rfl hX2 (by kernel_rfl) (by rw [vals_len, hKl.out]) ?_)
  refine (xored_ok K 54 54 rfl hKl.out _).mono ?_
  rintro e w3 ⟨rfl, hT3, hw3⟩
  have hR3 := hR2.since hw3
  have hX3 := hX2.since hw3
  have hw3' := hw2.trans (hw3.mono hw2.size)
  have sl3 := sl.since hw3'
  have hz3 := hw3'.size
  generalize w2.heap.size = i at hT3 ⊢
  clear hR2 hX2 hw2 hw3 sl2
  have sT := (Arr.seen hT3).alloc (.cells #[.slice (some ⟨i, 0, none⟩) 64 64, .slice B m d] 23)
  have sl3' := sl3.alloc (.cells #[.slice (some ⟨i, 0, none⟩) 64 64, .slice B m d] 23)
  have hw4 := hw3'.alloc hz3 (.cells #[.slice (some ⟨i, 0, none⟩) 64 64, .slice B m d] 23)
  have hT4 := hK.since hw4
  go_wp2_with fail
  refine (msum_ok w3.heap.size (some ⟨i, 0, none⟩) B 64 64 m d (turnB 54 K) l _ hti.out hl.out (by omega) sT sl3' (two_first ..) (two_second ..) (by simp) hT4).mono ?_
  rintro e w5 ⟨rfl, hw5⟩
  obtain ⟨I, hIl, hI⟩ : ∃ I : List UInt8, I.length = 32 ∧ I = sumB (turnB 54 K ++ l) := ⟨_, sumB_len _, rfl⟩
  replace hIl := Lib.hid hIl
  rw [← hI]
  replace hI : Unit → I = sumB (turnB 54 K ++ l) := fun _ => hI
  have hR5 := (hR3.alloc (.cells #[.slice (some ⟨i, 0, none⟩) 64 64, .slice B m d] 23)).since hw5
  have hX5 := (hX3.alloc (.cells #[.slice (some ⟨i, 0, none⟩) 64 64, .slice B m d] 23)).since hw5
  have hw5' := hw4.trans (hw5.mono hw4.size)
  have hz5 := hw5'.size
  have hlt5 := hX5.lt
  clear hR3 hX3 hw3' sT sl3 sl3' hw4 hT4 hw5 hT3 sl hz3
  have hF0 := Arr.new w5 z32 22
  go_wp2_with (guard_target =~ wpList _ _ _ (Oper.mk _ (Op.store _ _ _) _ _ _ _ :: _) _ _; refine wpList_store_arr (cs' := vals I) 32 rfl rfl rfl rfl hF0 (by kernel_rfl) rfl (by rw [vals_len, hIl.out]) (vals_one _) ?_)
  intro w6 hI6 ho6 hb6 hs6
  have hR6 := (hR5.alloc (.cells z32.toArray 22)).of_block (ho6 _ (by omega))
  have hX6 := (hX5.alloc (.cells z32.toArray 22)).of_block (ho6 _ (by omega))
  have hw6 := (hw5'.alloc hz5 (.cells z32.toArray 22)).trans (hb6.mono hz5)
  clear hF0 hR5 hX5 hw5' ho6 hb6 hs6
  generalize w5.heap.size = j at hI6 hz5 hlt5 ⊢
  have dR := hR6.drew
  have dX := hX6.drew
  have dI := hI6.drew
  have dw := hw6.drew
  have u64 : Tryd.prog.underlying 47 = some (.array 64 5) := Tryd.underlying47
  have i64 : (Tryd.prog.info? 47).map (·.size) = some (vals K).length := by rw [vals_len, hKl.out]; kernel_rfl
  have hcut := cut32 j
  go_wp2_with fail
  clear hR6 hX6 hI6 hw6
  have cX : g < w6.drew.heap.size := dX.lt
  have hS : w6.drew.rangeAt g 0 (vals K) := dX.range
  refine wp_region_held_drew (S := fun w' => w'.rangeAt g 0 (vals K)) (by kernel_rfl) hS (fun _ => ?_)
  refine wpAnyH_take (i := 2) (v := ?_) rfl (by kernel_rfl) (by kernel_rfl) (by kernel_rfl) (fun _ _ _ h => h) (Or.inl ⟨by rfl, ?_⟩) hS ?_
  rotate_left
  · intro w hSw
    go_simp
    try with_reducible rfl
  simp only [Act.put, List.setIfInBounds_toArray, List.set_cons_zero, List.set_cons_succ]
  try dsimp only
  refine wpAnyH_take (i := 0) (v := (.agg (vals K).toArray)) rfl (by kernel_rfl) (by kernel_rfl) (by kernel_rfl) (fun _ _ _ h => h) (yieldsIf_load_mid (by rfl) _ _ rfl _ _ rfl _ _ (fun w hS => hS) u64 rfl i64) hS ?_
  simp only [Act.put, List.setIfInBounds_toArray, List.set_cons_zero, List.set_cons_succ]
  refine wpAnyH_ready (rs := [1]) (by kernel_rfl) (by simp) ?_
  refine AllReadyH.cons rfl (fun F hF => ?_) AllReadyH.nil
  go_simp
  (with_reducible refine (xored_ok K 92 92 rfl hKl.out _).mono ?_)
  rintro e w7 ⟨rfl, hT7, hw7⟩
  have hR7 := dR.since hw7
  have hX7 := dX.since hw7
  have hI7 := dI.since hw7
  have hw7' := dw.trans (hw7.mono dw.size)
  have hS7 : w7.rangeAt g 0 (vals K) := hX7.range
  clear dR dX dI dw hw7 hS
  dsimp only
  refine hF.out _ _ hS7 (fun _ => ?_)
  clear hF F
  generalize w6.drew.heap.size = t at hT7 cX ⊢
  refine wpAnyH_ready (rs := [3]) (by kernel_rfl) (by simp) ?_
  refine AllReadyH.cons rfl (fun F hF => ?_) AllReadyH.nil
  go_simp
  have hR8 := hR7.alloc (.cells #[.slice (some ⟨t, 0, none⟩) 64 64, .slice (some ⟨j, 0, none⟩) 32 32] 23)
  have hX8 := hX7.alloc (.cells #[.slice (some ⟨t, 0, none⟩) 64 64, .slice (some ⟨j, 0, none⟩) 32 32] 23)
  have sT := (Arr.seen hT7).alloc (.cells #[.slice (some ⟨t, 0, none⟩) 64 64, .slice (some ⟨j, 0, none⟩) 32 32] 23)
  have sI := (Arr.seen hI7).alloc (.cells #[.slice (some ⟨t, 0, none⟩) 64 64, .slice (some ⟨j, 0, none⟩) 32 32] 23)
  have hw8 := hw7'.alloc hw7'.size (.cells #[.slice (some ⟨t, 0, none⟩) 64 64, .slice (some ⟨j, 0, none⟩) 32 32] 23)
  have hK8 := hK.since hw8
  have hS8 := hX8.range
  refine hF.out _ _ hS8 (fun _ => ?_)
  clear hF F
  refine wpAnyH_ready (rs := [4]) (by kernel_rfl) (by simp) ?_
  refine AllReadyH.cons rfl (fun F hF => ?_) AllReadyH.nil
  go_simp
  refine (msum_ok w7.heap.size (some ⟨t, 0, none⟩) (some ⟨j, 0, none⟩) 64 64 32 32 (turnB 92 K) I _ hto.out hIl.out (by decide) sT sI (two_first ..) (two_second ..) (by simp) hK8).mono ?_
  rintro e w9 ⟨rfl, hw9⟩
  rw [hI (), hend ()]
  have hR9 := hR8.since hw9
  have hX9 := hX8.since hw9
  have hw9' := hw8.trans (hw9.mono hw8.size)
  have hml := Lib.hid (macB_len k l)
  clear hR7 hX7 hI7 hw7' hS7 hT7 hR8 hX8 sT sI hw8 hK8 hS8 hw9
  dsimp only
  refine hF.out _ _ hX9.range (fun _ => ?_)
  clear hF F
  refine wpAnyH_ready (rs := [5]) (by kernel_rfl) (by simp) ?_
  refine AllReadyH.cons rfl (fun F hF => ?_) AllReadyH.nil
  refine wp_store_arr (cs' := vals (macB k l)) 32 rfl rfl rfl hR9 (by kernel_rfl) rfl (by rw [vals_len, hml.out]) (vals_one _) ?_
  intro w10 hR10 ho10 hb10 hs10
  have hX10 := hX9.of_block (ho10 _ (by omega))
  have hw10 := hw9'.trans hb10
  refine hF.out _ _ hX10.range (fun _ => ?_)
  clear hF F
  refine wpAnyH_done (by kernel_rfl) ?_ _
  clear hX9 hR9 hw9' ho10 hb10 hs10 hX10
  go_wp2
  exact ret_arr rfl w.heap.size _ _ rfl hR10 Tryd.underlying22 rfl (by rw [vals_len, hml.out]; kernel_rfl) rfl ⟨rfl, hw10⟩
end Go.Proofs.YtmgfgbdfmdblhaaDoor.mac
