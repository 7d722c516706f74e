/-
  THE WALK OF MsgSizes.
-/
import Derived.Test.YtmibgmcgicphoaaMsgShown
import Derived.Test.YtmibgmcgicphoaaMsgFit
namespace Go.Proofs.Ytmibgmcgicphoaa
open Go.RowKit Go.Proofs.Ytmibgmcgicphoaa.octets Go.Proofs.Ytmibgmcgicphoaa.given Go.Proofs.Ytmibgmcgicphoaa.msg
set_option linter.unusedVariables false
set_option linter.unusedSimpArgs false

def sizesL : List Value := [.int .i64 0, .int .i64 2, .int .i64 2, .int .i64 5, .int .i64 5, .int .i64 6, .int .i64 6, .int .i64 7, .int .i64 5, .int .i64 5, .int .i64 8, .int .i64 16]
theorem sizes_at (k : Nat) (h1 : 1 ≤ k) (h2 : k ≤ 11) : sizesL[k]? = some (.int .i64 ((sizeM (k : Int) : Nat) : Int)) := by
  have : k = 1 ∨ k = 2 ∨ k = 3 ∨ k = 4 ∨ k = 5 ∨ k = 6 ∨ k = 7 ∨ k = 8 ∨ k = 9 ∨ k = 10 ∨ k = 11 := by omega
  rcases this with rfl | rfl | rfl | rfl | rfl | rfl | rfl | rfl | rfl | rfl | rfl <;> rfl

set_option maxRecDepth 100000 in
set_option maxHeartbeats 8000000 in
theorem msgSizes_of (H : CodeOk) (v v1 : Value) (w : World) {base : Nat} (h0 : Value.okWide Try.prog w .any base 24 v) (h1 : Value.okWide Try.prog w .any base 24 v1) :
    Calls Try.prog 7 #[v, v1] w fun e w' => e = .returned (.bool true) ∧ Below w.heap.size w w' := by
  obtain ⟨m, rfl⟩ := msg_came h0
  obtain ⟨m', rfl⟩ := msg_came h1
  clear h0 h1
  have hx := fit_ok m
  have hy := fit_ok m'
  have q1 := fun W => fitM_ok m W
  have q2 := fun W => fitM_ok m' W
  generalize fitM m = X at hx q1
  generalize fitM m' = Y at hy q2
  have hlx := msgB_len (m := X)
  have hly := msgB_len (m := Y)
  have hsx := sizeM_le X.kind
  have hsy := sizeM_le Y.kind
  have hkx := (okM_parts hx).2.1
  obtain ⟨n1, hn1⟩ : ∃ n, (msgB X).length = n := ⟨_, rfl⟩
  obtain ⟨n2, hn2⟩ : ∃ n, (msgB Y).length = n := ⟨_, rfl⟩
  obtain ⟨nm, hnm⟩ : ∃ n, n = min n1 n2 := ⟨_, rfl⟩
  have hpre := msg_prefix hx hy nm (by rw [hn1, hn2]; exact hnm)
  rw [hn1] at hlx
  rw [hn2] at hly
  rw [← hlx] at hsx
  rw [← hly] at hsy
  have em : min (n1 : Int) (n2 : Int) = (nm : Int) := by omega
  have hnm1 : nm ≤ n1 := by omega
  have hnm2 : nm ≤ n2 := by omega
  have p1 := fun W => H.put_at X W hx
  have p2 := fun W => H.put_at Y W hy
  have hA0 := (Arr.new w (mv m) 24).alloc (.cells (mv m').toArray 24)
  have hB0 := Arr.new (w.alloc (.cells (mv m).toArray 24)) (mv m') 24
  have hw0 := (below_one w (.cells (mv m).toArray 24)).alloc (by simp) (.cells (mv m').toArray 24)
  rw [World.size_alloc] at hB0
  replace hn1 := Lib.hid hn1
  replace hn2 := Lib.hid hn2
  replace hlx := Lib.hid hlx
  replace hpre := Lib.hid hpre
  clear hnm hly
  go_enter Try.func7, Try.ntmps7
  try dsimp only [List.append]
  go_wp2_with fail
  generalize (w.alloc (.cells (mv m).toArray 24)).alloc (.cells (mv m').toArray 24) = W0 at hA0 hB0 hw0 ⊢
  refine (shown_any H _).mono ?_
  rintro e w1 ⟨rfl, hb1⟩
  have hA1 := hA0.since hb1
  have hB1 := hB0.since hb1
  have hw1 := hw0.trans (hb1.mono hw0.size)
  clear hA0 hB0 hw0 hb1
  generalize w.heap.size + 1 = gB at hB1 ⊢
  go_wp2_with (guard_target =~ wpList _ _ _ (Oper.mk _ (Op.load 24 _) _ _ _ _ :: _) _ _; refine wpList_load_arr 12 rfl rfl rfl hA1 (by kernel_rfl) rfl ?_)
  refine (q1 _).mono ?_
  rintro e w2 ⟨rfl, hb2⟩
  have hB2 := hB1.since hb2
  have hw2 := hw1.trans (hb2.mono hw1.size)
  have hz2 := new_zm w2 24
  have hltB := hB2.lt
  clear hA1 hB1 hw1 hb2
  go_wp2_with (first
    | (guard_target =~ wpList _ _ _ (Oper.mk _ (Op.store 24 _ _) _ _ _ _ :: _) _ _; refine wpList_store_arr (cs' := mv X) 12 rfl rfl rfl rfl hz2 (by kernel_rfl) rfl rfl (mv_one _) ?_))
  intro w3 hX3 ho3 hb3 hs3
  have hB3 := (hB2.alloc (.cells #[.int .i64 0, .int .i64 0, .int .i64 0, .int .i64 0, .int .i64 0, .int .i64 0, .int .i64 0, .bool false, .int .i64 0, .int .i64 0, .int .i64 0, .int .i64 0] 24)).of_block (ho3 _ (by omega))
  have hw3 := (hw2.alloc hw2.size (.cells #[.int .i64 0, .int .i64 0, .int .i64 0, .int .i64 0, .int .i64 0, .int .i64 0, .int .i64 0, .bool false, .int .i64 0, .int .i64 0, .int .i64 0, .int .i64 0] 24)).trans (hb3.mono hw2.size)
  clear hB2 hz2 hw2 ho3 hb3 hs3 hltB
  generalize w2.heap.size = gX at hX3 ⊢
  go_wp2_with (guard_target =~ wpList _ _ _ (Oper.mk _ (Op.load 24 _) _ _ _ _ :: _) _ _; refine wpList_load_arr 12 rfl rfl rfl hB3 (by kernel_rfl) rfl ?_)
  refine (q2 _).mono ?_
  rintro e w4 ⟨rfl, hb4⟩
  have hX4 := hX3.since hb4
  have hw4 := hw3.trans (hb4.mono hw3.size)
  have hz4 := new_zm w4 24
  have hltX := hX4.lt
  clear hX3 hB3 hw3 hb4
  go_wp2_with (first
    | (guard_target =~ wpList _ _ _ (Oper.mk _ (Op.store 24 _ _) _ _ _ _ :: _) _ _; refine wpList_store_arr (cs' := mv Y) 12 rfl rfl rfl rfl hz4 (by kernel_rfl) rfl rfl (mv_one _) ?_)
    | (guard_target =~ wpList _ _ _ (Oper.mk _ (Op.load 24 _) _ _ _ _ :: _) _ _; refine wpList_load_arr 12 rfl rfl rfl ((hX4.alloc (.cells #[.int .i64 0, .int .i64 0, .int .i64 0, .int .i64 0, .int .i64 0, .int .i64 0, .int .i64 0, .bool false, .int .i64 0, .int .i64 0, .int .i64 0, .int .i64 0] 24)).of_block (by assumption)) (by kernel_rfl) rfl ?_))
  intro w5 hY5 ho5 hb5 hs5
  have hX5 := (hX4.alloc (.cells #[.int .i64 0, .int .i64 0, .int .i64 0, .int .i64 0, .int .i64 0, .int .i64 0, .int .i64 0, .bool false, .int .i64 0, .int .i64 0, .int .i64 0, .int .i64 0] 24)).of_block (ho5 _ (by omega))
  have hw5 := (hw4.alloc hw4.size (.cells #[.int .i64 0, .int .i64 0, .int .i64 0, .int .i64 0, .int .i64 0, .int .i64 0, .int .i64 0, .bool false, .int .i64 0, .int .i64 0, .int .i64 0, .int .i64 0] 24)).trans (hb5.mono hw4.size)
  clear hX4 hw4 hz4 ho5 hb5 hs5 hltX
  generalize w4.heap.size = gY at hY5 ⊢
  go_wp2_with (guard_target =~ wpList _ _ _ (Oper.mk _ (Op.load 24 _) _ _ _ _ :: _) _ _; refine wpList_load_arr 12 rfl rfl rfl hX5 (by kernel_rfl) rfl ?_)
  refine (p1 _).mono ?_
  rintro e w6 ⟨bp, cp, rfl, -, hp6, hb6⟩
  rw [hn1.out]
  have hX6 := hX5.since hb6
  have hY6 := hY5.since hb6
  have hw6 := hw5.trans (hb6.mono hw5.size)
  clear hX5 hY5 hw5 hb6
  go_wp2_with (guard_target =~ wpList _ _ _ (Oper.mk _ (Op.load 24 _) _ _ _ _ :: _) _ _; refine wpList_load_arr 12 rfl rfl rfl hY6 (by kernel_rfl) rfl ?_)
  refine (p2 _).mono ?_
  rintro e w7 ⟨bq, cq, rfl, -, hq7, hb7⟩
  rw [hn2.out]
  have hX7 := hX6.since hb7
  have hY7 := hY6.since hb7
  have hp7 := hp6.since hb7
  have hw7 := hw6.trans (hb7.mono hw6.size)
  have hcp : n1 ≤ cp := by have := hp7.1; rw [hn1.out] at this; exact this
  have hcq : n2 ≤ cq := by have := hq7.1; rw [hn2.out] at this; exact this
  have s1 := slice_h (some ⟨bp, 0, none⟩) n1 cp nm (by omega)
  have s2 := slice_h (some ⟨bq, 0, none⟩) n2 cq nm (by omega)
  have g1 : ((n1 : Int) == 0) = false := by rw [beq_eq_false_iff_ne]; omega
  have g2 : ((n2 : Int) == 0) = false := by rw [beq_eq_false_iff_ne]; omega
  have g3 : ¬ (n1 : Int) = 0 := by omega
  have g4 : ¬ (n2 : Int) = 0 := by omega
  clear hX6 hY6 hp6 hw6 hb7 p1 p2 q1 q2
  go_wp2_with fail
  have hS8 : Arr (w7.alloc (.cells #[.int .i64 0, .int .i64 2, .int .i64 2, .int .i64 5, .int .i64 5, .int .i64 6, .int .i64 6, .int .i64 7, .int .i64 5, .int .i64 5, .int .i64 8, .int .i64 16] 45)) w7.heap.size sizesL := Arr.new_at w7 sizesL _ 45 rfl
  have hX8 := hX7.alloc (.cells #[.int .i64 0, .int .i64 2, .int .i64 2, .int .i64 5, .int .i64 5, .int .i64 6, .int .i64 6, .int .i64 7, .int .i64 5, .int .i64 5, .int .i64 8, .int .i64 16] 45)
  have hY8 := hY7.alloc (.cells #[.int .i64 0, .int .i64 2, .int .i64 2, .int .i64 5, .int .i64 5, .int .i64 6, .int .i64 6, .int .i64 7, .int .i64 5, .int .i64 5, .int .i64 8, .int .i64 16] 45)
  have hp8 := hp7.alloc (.cells #[.int .i64 0, .int .i64 2, .int .i64 2, .int .i64 5, .int .i64 5, .int .i64 6, .int .i64 6, .int .i64 7, .int .i64 5, .int .i64 5, .int .i64 8, .int .i64 16] 45)
  have hq8 := hq7.alloc (.cells #[.int .i64 0, .int .i64 2, .int .i64 2, .int .i64 5, .int .i64 5, .int .i64 6, .int .i64 6, .int .i64 7, .int .i64 5, .int .i64 5, .int .i64 8, .int .i64 16] 45)
  have hw8 := hw7.alloc hw7.size (.cells #[.int .i64 0, .int .i64 2, .int .i64 2, .int .i64 5, .int .i64 5, .int .i64 6, .int .i64 6, .int .i64 7, .int .i64 5, .int .i64 5, .int .i64 8, .int .i64 16] 45)
  obtain ⟨bE, hbE⟩ : ∃ b, decide (X = Y) = b := ⟨_, rfl⟩
  have hE := fun W => eql_msg X Y W
  rw [hbE] at hE
  obtain ⟨sp, hsp⟩ : ∃ s : ByteArray, s = ⟨((msgB X).take nm).toArray⟩ := ⟨_, rfl⟩
  obtain ⟨sq, hsq⟩ : ∃ s : ByteArray, s = ⟨((msgB Y).take nm).toArray⟩ := ⟨_, rfl⟩
  have hl1 : ((msgB X).take nm).length = nm := by rw [List.length_take, hn1.out]; omega
  have hl2 : ((msgB Y).take nm).length = nm := by rw [List.length_take, hn2.out]; omega
  have hcmp : (sp.toList == sq.toList) = bE := by
    rw [← hbE, hsp, hsq, ByteArray.toList_eq, ByteArray.toList_eq, Bool.eq_iff_iff, beq_iff_eq, decide_eq_true_eq]
    exact hpre.out
  have hbyte : ((u1 X.kind).toNat : Int) = X.kind := u1_back (by omega) (by omega)
  have hp0 : Arr w7 0 [] → True := fun _ => trivial
  have hcell0 := hp8.cell (i := 0) (by rw [hn1.out]; omega)
  have hh0 : (msgB X)[0]'(by rw [hn1.out]; omega) = u1 X.kind := rfl
  rw [hh0, hbyte] at hcell0
  have hsz := hlx.out
  clear hX7 hY7 hp7 hq7 hw7 hp0 hh0 hbyte
  generalize w7.alloc (.cells #[.int .i64 0, .int .i64 2, .int .i64 2, .int .i64 5, .int .i64 5, .int .i64 6, .int .i64 6, .int .i64 7, .int .i64 5, .int .i64 5, .int .i64 8, .int .i64 16] 45) = W8 at hS8 hX8 hY8 hp8 hq8 hw8 hcell0 ⊢
  generalize w7.heap.size = gS at hS8 ⊢
  have t1 : ∀ q, (convert 29 9 (.slice (some ⟨bp, 0, none⟩) nm cp)).run Try.prog (W8.drewN q) = .ok (.string sp) (W8.drewN q) := fun q => ((hp8.seen.take nm).drewN q).str nm cp hl1 sp hsp
  have t2 : ∀ q, (convert 29 9 (.slice (some ⟨bq, 0, none⟩) nm cq)).run Try.prog (W8.drewN q) = .ok (.string sq) (W8.drewN q) := fun q => ((hq8.seen.take nm).drewN q).str nm cq hl2 sq hsq
  have hcp0 : ∀ q, (W8.drewN q).cell? ⟨bp, 0, none⟩ = some (.int .u8 X.kind) := fun q => hcell0
  clear hsp hsq hl1 hl2 hp8 hq8 hcell0 hpre hx hy hn1 hn2
  obtain ⟨uk, us, ur, ut, ue, umo, uc, un, ux0, ux1, ux2, ux3⟩ := X
  obtain ⟨vk, vs, vr, vt, ve, vmo, vc, vn, vx0, vx1, vx2, vx3⟩ := Y
  simp only at hkx hsz hcp0
  obtain ⟨κ, rfl⟩ : ∃ κ : Nat, uk = κ := ⟨uk.toNat, by omega⟩
  have hS9 : ∀ q, (W8.drewN q).cell? ⟨gS, κ, none⟩ = some (.int .i64 (n1 : Int)) := fun q => by
    have h := hS8.cell (sizes_at κ (by omega) (by omega))
    rw [← hsz] at h
    exact h
  have hE : ∀ W, (binOp .eql 24 (.agg #[.int .i64 (κ : Int), .int .i64 us, .int .i64 ur, .int .i64 ut, .int .i64 ue, .int .i64 umo, .int .i64 uc, .bool un, .int .i64 ux0, .int .i64 ux1, .int .i64 ux2, .int .i64 ux3]) (.agg #[.int .i64 vk, .int .i64 vs, .int .i64 vr, .int .i64 vt, .int .i64 ve, .int .i64 vmo, .int .i64 vc, .bool vn, .int .i64 vx0, .int .i64 vx1, .int .i64 vx2, .int .i64 vx3])).run Try.prog W = .ok (.bool bE) W := hE
  have ca0 : ∀ q, (W8.drewN q).cell? ⟨gX, 0, none⟩ = some (.int .i64 (κ : Int)) := fun q => hX8.cell rfl
  have ca1 : ∀ q, (W8.drewN q).cell? ⟨gX, 1, none⟩ = some (.int .i64 us) := fun q => hX8.cell rfl
  have ca2 : ∀ q, (W8.drewN q).cell? ⟨gX, 2, none⟩ = some (.int .i64 ur) := fun q => hX8.cell rfl
  have ca3 : ∀ q, (W8.drewN q).cell? ⟨gX, 3, none⟩ = some (.int .i64 ut) := fun q => hX8.cell rfl
  have ca4 : ∀ q, (W8.drewN q).cell? ⟨gX, 4, none⟩ = some (.int .i64 ue) := fun q => hX8.cell rfl
  have ca5 : ∀ q, (W8.drewN q).cell? ⟨gX, 5, none⟩ = some (.int .i64 umo) := fun q => hX8.cell rfl
  have ca6 : ∀ q, (W8.drewN q).cell? ⟨gX, 6, none⟩ = some (.int .i64 uc) := fun q => hX8.cell rfl
  have ca7 : ∀ q, (W8.drewN q).cell? ⟨gX, 7, none⟩ = some (.bool un) := fun q => hX8.cell rfl
  have ca8 : ∀ q, (W8.drewN q).cell? ⟨gX, 8, none⟩ = some (.int .i64 ux0) := fun q => hX8.cell rfl
  have ca9 : ∀ q, (W8.drewN q).cell? ⟨gX, 9, none⟩ = some (.int .i64 ux1) := fun q => hX8.cell rfl
  have ca10 : ∀ q, (W8.drewN q).cell? ⟨gX, 10, none⟩ = some (.int .i64 ux2) := fun q => hX8.cell rfl
  have ca11 : ∀ q, (W8.drewN q).cell? ⟨gX, 11, none⟩ = some (.int .i64 ux3) := fun q => hX8.cell rfl
  have cb0 : ∀ q, (W8.drewN q).cell? ⟨gY, 0, none⟩ = some (.int .i64 vk) := fun q => hY8.cell rfl
  have cb1 : ∀ q, (W8.drewN q).cell? ⟨gY, 1, none⟩ = some (.int .i64 vs) := fun q => hY8.cell rfl
  have cb2 : ∀ q, (W8.drewN q).cell? ⟨gY, 2, none⟩ = some (.int .i64 vr) := fun q => hY8.cell rfl
  have cb3 : ∀ q, (W8.drewN q).cell? ⟨gY, 3, none⟩ = some (.int .i64 vt) := fun q => hY8.cell rfl
  have cb4 : ∀ q, (W8.drewN q).cell? ⟨gY, 4, none⟩ = some (.int .i64 ve) := fun q => hY8.cell rfl
  have cb5 : ∀ q, (W8.drewN q).cell? ⟨gY, 5, none⟩ = some (.int .i64 vmo) := fun q => hY8.cell rfl
  have cb6 : ∀ q, (W8.drewN q).cell? ⟨gY, 6, none⟩ = some (.int .i64 vc) := fun q => hY8.cell rfl
  have cb7 : ∀ q, (W8.drewN q).cell? ⟨gY, 7, none⟩ = some (.bool vn) := fun q => hY8.cell rfl
  have cb8 : ∀ q, (W8.drewN q).cell? ⟨gY, 8, none⟩ = some (.int .i64 vx0) := fun q => hY8.cell rfl
  have cb9 : ∀ q, (W8.drewN q).cell? ⟨gY, 9, none⟩ = some (.int .i64 vx1) := fun q => hY8.cell rfl
  have cb10 : ∀ q, (W8.drewN q).cell? ⟨gY, 10, none⟩ = some (.int .i64 vx2) := fun q => hY8.cell rfl
  have cb11 : ∀ q, (W8.drewN q).cell? ⟨gY, 11, none⟩ = some (.int .i64 vx3) := fun q => hY8.cell rfl
  have hκ : (κ : Int) < 12 := by omega
  clear hS8 hX8 hY8 hsz hbE hlx
  go_quiet (fail)
  have hw9 := below_drawn hw8 nq
  go_wp2
  go_ret
  exact ⟨by simp [hcmp], hw9⟩
end Go.Proofs.Ytmibgmcgicphoaa
