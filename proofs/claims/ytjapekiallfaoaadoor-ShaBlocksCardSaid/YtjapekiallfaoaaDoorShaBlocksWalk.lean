/-
  THE WALK OF 'ShaBlocks': the sum is made block by block, in order, from the start on, and told with the highest byte first.
-/
import Derived.Test.YtjapekiallfaoaaDoorShaShown
namespace Go.Proofs.YtjapekiallfaoaaDoor.walks
open Go.ChangeShapes Go.WideShapes Go.ChangeAt Go.RowKit Go.Proofs.YtjapekiallfaoaaDoor.octets Go.Proofs.YtjapekiallfaoaaDoor.sha Go.Proofs.YtjapekiallfaoaaDoor.given
set_option linter.unusedVariables false

set_option maxRecDepth 100000 in
set_option maxHeartbeats 2000000 in
theorem blocks_core (a : Option Addr) (n cap : Nat) (l : List UInt8) (p P N : Nat) (w : World) (hr : Seen w a l) (hp : p = min n 300) (hlp : l.length = p) (hc : n ≤ cap) (hP : padN p = P) (hN : P / 64 = N) (hK : Table w) :
    Calls Tryd.prog 5 #[.slice a n cap] w fun e w' => e = .returned (.bool true) ∧ Below w.heap.size w w' := by
  have hp3 : p ≤ 300 := by omega
  have hPN : P = 64 * N := by have := padN_mod p; omega
  have hP2 : P ≤ 372 := by have := padN_le p; omega
  have hP3 : 0 < P := by have := padN_ge p; omega
  have hpl : (padL l).length = P := by rw [padL_len, hlp, hP]
  have hend : Unit → allB (hs (padL l) N) = sumB l := fun _ => by rw [sumB, hlp, hP, hN]
  replace hp := Lib.hid hp
  replace hlp := Lib.hid hlp
  replace hP : Unit → padN p = P := fun _ => hP
  replace hN : Unit → P / 64 = N := fun _ => hN
  replace hPN : Unit → P = 64 * N := fun _ => hPN
  replace hpl := Lib.hid hpl
  go_enter Tryd.func5, Tryd.ntmps5
  try dsimp only [List.append]
  go_wp2_with fail
  (with_reducible refine (shown_any _ hK).mono ?_)
  rintro e w1 ⟨rfl, hw1⟩
  have hr1 := hr.since hw1
  go_wp2_with fail
  (with_reducible refine (few_ok a n cap p _ hc hp.out).mono ?_)
  rintro e w' ⟨rfl, rfl⟩
  go_wp2_with fail
  (with_reducible refine (pad_at a p cap l P _ hlp.out (by omega) hr1 (hP ())).mono ?_)
  rintro e w2 ⟨bp, rfl, hbp, hpp, hs2⟩
  have hr2 := hr1.since hs2
  have hw2 := hw1.trans (hs2.mono hw1.size)
  clear hr1 hw1 hs2 hbp
  go_wp2_with fail
  (with_reducible refine (start_ok _).mono ?_)
  rintro e w3 ⟨rfl, hs3⟩
  have hp3' := hpp.since hs3
  have hw3 := hw2.trans (hs3.mono hw2.size)
  have hz3 := hw3.size
  have hb3 := hp3'.lt
  clear hpp hw2 hs3 hr2
  have hX0 := Arr.new w3 z8 24
  go_wp2_with (guard_target =~ wpList _ _ _ (Oper.mk _ (Op.store _ _ _) _ _ _ _ :: _) _ _; refine wpList_store_arr (cs' := cells32 sha.start) 8 rfl rfl rfl rfl hX0 (by kernel_rfl) rfl rfl (cells32_one _) ?_)
  intro w4 hX4 ho4 hb4 hs4
  have hp4 := (hp3'.alloc (.cells z8.toArray 24)).of_block (ho4 _ (by omega))
  have hw4 := (hw3.alloc hz3 (.cells z8.toArray 24)).trans (hb4.mono hz3)
  clear hX0 ho4 hb4 hs4 hw3 hp3'
  generalize w3.heap.size = g at hX4 hz3 hb3 ⊢
  go_wp2
  go_loopw [7] (fun t wr => ∃ (i k : Nat), i ≤ N ∧ k = 64 * i ∧ t = .int .i64 k ∧ Below w.heap.size w wr ∧ Arr wr g (cells32 (hs (padL l) i)) ∧ Held wr bp P (padL l)) (fun t _ => P - (intOf t).toNat)
  case atStart => exact ⟨0, 0, by omega, rfl, rfl, hw4, hX4, hp4⟩
  case round =>
    clear hw4 hX4 hp4
    obtain ⟨i, k, hi, hk, rfl, hw, hX, hpb⟩ := hrel
    by_cases hlt : i < N
    · have hkP : k + 64 ≤ P := by have := hPN (); omega
      have hcut := cut_win bp P k P (by omega)
      have hall := fun W => cut_all wr.heap.size W
      obtain ⟨k2, hk2⟩ : ∃ k2, k + 64 = k2 := ⟨_, rfl⟩
      have E1 : IntKind.i64.wrap ((k : Int) + 64) = (k2 : Int) := by rw [IntKind.wrap_i64]; omega
      have hcut' : ∀ W, (Instr.slice 22 (.slice (some ⟨bp, 0, none⟩) P P) (some (.int .i64 (k : Int))) (some (.int .i64 (k2 : Int))) none).run Tryd.prog W = .ok (.slice (some ⟨bp, k, none⟩) 64 (P - k)) W := by rw [← hk2]; exact hcut
      have h8 : Hid ((hs (padL l) i).length = 8) := Lib.hid (hs_len _ _)
      have hbl : Hid ((((padL l).drop (64 * i)).take 64).length = 64) := Lib.hid (by rw [List.length_take, List.length_drop, hpl.out]; omega)
      have hB0 := Arr.new wr zb64 25
      have hz := hw.size
      have hgl := hX.lt
      have hpl3 := hpb.lt
      have hT := hK.since hw
      have hk2P : k2 ≤ P := by omega
      replace hk : Unit → k = 64 * i := fun _ => hk
      replace hk2 : Unit → k + 64 = k2 := fun _ => hk2
      clear hcut
      go_wp2_with (guard_target =~ wpList _ _ _ (Oper.mk _ (Op.store _ _ _) _ _ _ _ :: _) _ _; refine wpList_store_arr (cs' := zb64) 64 rfl rfl rfl rfl hB0 (by kernel_rfl) rfl rfl (by rw [show zb64 = vals (List.replicate 64 0) by simp [zb64, vals]]; exact vals_one _) ?_)
      intro V hB ho hb hs
      have hX1 := (hX.alloc (.cells zb64.toArray 25)).of_block (ho _ (by omega))
      have hp1 := (hpb.alloc (.cells zb64.toArray 25)).of_block (ho _ (by omega))
      have hw1 := (hw.alloc hz (.cells zb64.toArray 25)).trans (hb.mono hz)
      clear hB0 hX hpb hw ho hb hs hT
      generalize wr.heap.size = x at hB hz hgl hpl3 hall ⊢
      go_wp2_with fail
      go_still_tail 6, (by kernel_rfl)
      change wpList _ _ _ _ _ V.drew
      have hX' := hX1.drew
      have hB' := hB.drew
      have hp' : Held V.drew bp P (padL l) := hp1
      have hw' := hw1.drew
      clear hX1 hB hp1 hw1 hall hcut' E1
      generalize V.drew = W at hX' hB' hp' hw' ⊢
      have hkl : k + 64 ≤ (padL l).length := by rw [hpl.out]; exact hkP
      refine wpList_copy_block _ rfl (.tmp 27) (.tmp 32) rfl x bp k P (P - k) rfl rfl zb64 rfl hB' (padL l) hp' hkl ?_
      intro W2 hB2 hb2
      rw [hk ()] at hB2
      have hX2 := hX'.below hb2 (by omega)
      have hp2 := hp'.below hb2 (by omega)
      have hw2 := hw'.trans (hb2.mono hz)
      have hT2 := hK.since hw2
      clear hX' hB' hp' hw' hb2 hkl
      go_wp2_with (first
        | (guard_target =~ wpList _ _ _ (Oper.mk _ (Op.load 24 _) _ _ _ _ :: _) _ _; refine wpList_load_arr 8 rfl rfl rfl hX2 (by kernel_rfl) (by rw [cells32_len, h8.out]) ?_)
        | (guard_target =~ wpList _ _ _ (Oper.mk _ (Op.load 25 _) _ _ _ _ :: _) _ _; refine wpList_load_arr 64 rfl rfl rfl hB2 (by kernel_rfl) (by rw [vals_len, hbl.out]) ?_))
      (with_reducible refine (block_ok (hs (padL l) i) _ h8.out hbl.out _ hT2).mono ?_)
      rintro e V2 ⟨rfl, hV2⟩
      have hX3 := hX2.since hV2
      have hp3 := hp2.since hV2
      have hw3 := hw2.trans (hV2.mono hw2.size)
      clear hX2 hp2 hw2 hV2 hB2 hT2
      go_wp2_with (guard_target =~ wpList _ _ _ (Oper.mk _ (Op.store _ _ _) _ _ _ _ :: _) _ _; refine wpList_store_arr (cs' := cells32 (blk (hs (padL l) i) (((padL l).drop (64 * i)).take 64))) 8 rfl rfl rfl rfl hX3 (by kernel_rfl) (by rw [cells32_len, h8.out]) (by rw [cells32_len, blk_len]) (cells32_one _) ?_)
      intro V3 hX4 ho3 hb3 hs3
      have hp4 := hp3.of_block (ho3 _ (by omega))
      have hw4 := hw3.trans (hb3.mono (by omega))
      clear hX3 hp3 hw3 ho3 hb3 hs3
      go_wp2
      go_roundw
      case rel => exact ⟨i + 1, k + 64, by omega, by have := hk (); omega, by go_num, hw4, hX4, hp4⟩
      case measure => simp [intOf]; omega
    · obtain rfl : i = N := by omega
      have hkP : P ≤ k := by have := hPN (); omega
      have hk2 : k ≤ 372 := by have := hPN (); omega
      obtain ⟨h, hh⟩ : ∃ h, hs (padL l) i = h := ⟨_, rfl⟩
      have h8 : Hid (h.length = 8) := Lib.hid (by rw [← hh, hs_len])
      have hend' : Unit → allB h = sumB l := fun _ => by rw [← hh, hend ()]
      rw [hh] at hX
      replace hk : Unit → k = 64 * i := fun _ => hk
      have hT := hK.since hw
      have hr2 := hr.since hw
      clear hh hpb hend
      go_wp2_with fail
      (with_reducible refine (sum_at a p cap l _ hlp.out (by omega) hr2 hT).mono ?_)
      rintro e V ⟨rfl, hV⟩
      have hX1 := hX.since hV
      have hw1 := hw.trans (hV.mono hw.size)
      have hz1 := hw1.size
      have hgl := hX1.lt
      clear hX hw hV hT hr2
      have hF0 := Arr.new V z32 28
      go_wp2_with (guard_target =~ wpList _ _ _ (Oper.mk _ (Op.store _ _ _) _ _ _ _ :: _) _ _; refine wpList_store_arr (cs' := vals (sumB l)) 32 rfl rfl rfl rfl hF0 (by kernel_rfl) rfl (by rw [vals_len, sumB_len]) (vals_one _) ?_)
      intro V2 hS ho hb hs0
      have hX2 := (hX1.alloc (.cells z32.toArray 28)).of_block (ho _ (by omega))
      have hw2 := (hw1.alloc hz1 (.cells z32.toArray 28)).trans (hb.mono hz1)
      clear hF0 hX1 hw1 ho hb hs0 hz1
      generalize V.heap.size = x at hS hgl ⊢
      go_wp2
      go_loop [10] (fun t => ∃ i : Nat, i ≤ 8 ∧ t = .int .i64 i) (fun t => 8 - (intOf t).toNat)
      case atStart => exact ⟨0, by omega, rfl⟩
      case round =>
        obtain ⟨j, hj, rfl⟩ := hrel
        by_cases hjl : j < 8
        · obtain ⟨v, hv⟩ : ∃ v, h.getD j 0 = v := ⟨_, rfl⟩
          have cv : V2.cell? ⟨g, j, none⟩ = some (.int .u32 (v.toNat : Int)) := hX2.cell (by rw [cells32_get (by rw [h8.out]; exact hjl), ← hv]; simp [h8.out, hjl])
          have j8 : (j : Int) < 8 := by omega
          replace hv : Unit → h.getD j 0 = v := fun _ => hv
          go_wp2
          go_loop [11, 12] (fun t s => ∃ k m : Nat, k ≤ 4 ∧ s = .int .i64 k ∧ t = .int .u32 m ∧ m = num ((octs 4 v.toNat).take k)) (fun _ s => 4 - (intOf s).toNat)
          case atStart => exact ⟨0, 0, by omega, rfl, rfl, rfl⟩
          case round =>
            obtain ⟨k, m, hk4, rfl, rfl, hm⟩ := hrel
            by_cases hkl : k < 4
            · have hlk : ((octs 4 v.toNat).take k).length = k := by rw [List.length_take, octs_len]; omega
              have hmb : m < 16777216 := by
                have h1 := num_lt ((octs 4 v.toNat).take k)
                rw [hlk, ← hm] at h1
                have h2 : 256 ^ k ≤ 256 ^ 3 := Nat.pow_le_pow_right (by decide) (by omega)
                omega
              obtain ⟨c, hcc⟩ : ∃ c, (octs 4 v.toNat).getD k 0 = c := ⟨_, rfl⟩
              obtain ⟨q, hq⟩ : ∃ q, 4 * j + k = q := ⟨_, rfl⟩
              have e1 : 4 * (j : Int) + (k : Int) = (q : Int) := by omega
              have q32 : q < 32 := by omega
              have cs : V2.cell? ⟨x, q, none⟩ = some (.int .u8 (c.toNat : Int)) := hS.cell (by
                have hg := allB_get h j k (by rw [h8.out]; exact hjl) hkl
                rw [hq, hend' (), hv (), hcc] at hg
                rw [vals, List.getElem?_map, hg]; rfl)
              have hcl := c.toNat_lt
              have E := num4_step m c hmb
              obtain ⟨m2, hm2⟩ : ∃ m2, m * 256 + c.toNat = m2 := ⟨_, rfl⟩
              rw [hm2] at E
              have hfin : Unit → m2 = num ((octs 4 v.toNat).take (k + 1)) := fun _ => by
                have h8' : k < (octs 4 v.toNat).length := by rw [octs_len]; exact hkl
                rw [List.take_succ_eq_append_getElem h8', num_snoc, ← hm, ← hm2, ← hcc]
                simp [h8']
              replace hm : Unit → m = num ((octs 4 v.toNat).take k) := fun _ => hm
              clear hlk hcc hq hm2
              go_wp2
              go_round
              case rel => exact ⟨k + 1, m2, by omega, by go_num, rfl, hfin ()⟩
              case measure => simp [intOf]; omega
            · obtain rfl : k = 4 := by omega
              simp only [show ((4 : Nat) : Int) = 4 from rfl]
              have hmv : m = v.toNat := by
                have hvl := u_lt v
                rw [hm, List.take_of_length_le (by rw [octs_len]; omega), num_octs, Nat.mod_eq_of_lt (by omega)]
              subst hmv
              clear hm
              go_wp2
              go_round
              case rel => exact ⟨j + 1, by omega, by go_num⟩
              case measure => simp [intOf]; omega
        · obtain rfl : j = 8 := by omega
          go_wp2
          go_ret
          exact ⟨rfl, hw2⟩

theorem shaBlocks (a : Option Addr) (len cap : Nat) (z : List Int) (w : World) (w0 : Nums .u8 w a len cap z) (hL : laidMet Tryd.prog [("sidestick/sha.roots", Rows.laid_sidestick_sha_roots)] w) :
    Calls Tryd.prog 5 #[.slice a len cap] w fun e w' => e = .returned (.bool true) ∧ Below w.heap.size w w' := by
  obtain ⟨l, rfl, hl, hcap⟩ := seen_nums w0
  exact blocks_core a _ cap (l.take 300) (min l.length 300) _ _ w (hl.take 300) rfl (by simp; omega) hcap rfl rfl (table_of hL)
end Go.Proofs.YtjapekiallfaoaaDoor.walks
