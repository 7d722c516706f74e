/-
  THE CONTRACT OF sha.Block.
-/
import Derived.Test.YtmgfgbdfmdblhaaDoorShaWords
namespace Go.Proofs.YtmgfgbdfmdblhaaDoor.sha
open Go.RowKit Go.Proofs.YtmgfgbdfmdblhaaDoor.octets
set_option linter.unusedVariables false
/-- the program's table, as it lies in memory -/
def Table (w : World) : Prop := 0 < w.heap.size ∧ ∀ i, i < 64 → w.cell? ⟨0, i, none⟩ = some (.int .u32 ((roots.getD i 0).toNat : Int))
theorem Table.since {w w' : World} (h : Table w) (hb : Below w.heap.size w w') : Table w' := ⟨Nat.lt_of_lt_of_le h.1 hb.size, fun i hi => (hb.cell (p := ⟨0, i, none⟩) h.1).trans (h.2 i hi)⟩
theorem Table.drewN {w : World} (h : Table w) (n : Nat) : Table (w.drewN n) := h
def z8 : List Value := [.int .u32 0, .int .u32 0, .int .u32 0, .int .u32 0, .int .u32 0, .int .u32 0, .int .u32 0, .int .u32 0]
set_option maxRecDepth 100000 in
set_option maxHeartbeats 2000000 in
theorem block_ok (h : List UInt32) (b : List UInt8) (hh : h.length = 8) (hb : b.length = 64) (w : World) (hK : Table w) :
    Calls Tryd.prog 27 #[.agg (cells32 h).toArray, .agg (vals b).toArray] w fun e w' => e = .returned (.agg (cells32 (blk h b)).toArray) ∧ Below w.heap.size w w' := by
  have hh8 : Hid ((cells32 h).length = 8) := Lib.hid (by rw [cells32_len, hh])
  have hv64 : Hid ((vals b).length = 64) := Lib.hid (by rw [vals_len, hb])
  have hw1 : Below w.heap.size w (((w.alloc (.cells (cells32 h).toArray 57)).alloc (.cells (vals b).toArray 47)).alloc (.cells z8.toArray 57)) := by go_grown
  have hH := ((Arr.new w (cells32 h) 57).alloc (.cells (vals b).toArray 47)).alloc (.cells z8.toArray 57)
  have hB := (Arr.new (w.alloc (.cells (cells32 h).toArray 57)) (vals b) 47).alloc (.cells z8.toArray 57)
  have hR := Arr.new ((w.alloc (.cells (cells32 h).toArray 57)).alloc (.cells (vals b).toArray 47)) z8 57
  have hX0 := Arr.new (((w.alloc (.cells (cells32 h).toArray 57)).alloc (.cells (vals b).toArray 47)).alloc (.cells z8.toArray 57)) z8 57
  simp only [World.size_alloc] at hB hR hX0
  replace hh := Lib.hid hh
  replace hb := Lib.hid hb
  go_enter Tryd.func27, Tryd.ntmps27
  go_wp2_with (first
    | (guard_target =~ wpList _ _ _ (Oper.mk _ (Op.load _ _) _ _ _ _ :: _) _ _; refine wpList_load_arr 8 rfl rfl rfl hH (by kernel_rfl) hh8.out ?_)
    | (guard_target =~ wpList _ _ _ (Oper.mk _ (Op.store _ _ _) _ _ _ _ :: _) _ _; refine wpList_store_arr (cs' := cells32 h) 8 rfl rfl rfl rfl hX0 (by kernel_rfl) rfl hh8.out (cells32_one h) ?_))
  intro w1 hX1 ho1 hb1 hs1
  have hw1' := (hw1.alloc (by simp; omega) (.cells z8.toArray 57)).trans (hb1.mono (Nat.le_trans (Nat.le_add_right _ 1) (Nat.le_trans (Nat.le_add_right _ 1) (Nat.le_add_right _ 1))))
  have hH1 := (hH.alloc (.cells z8.toArray 57)).of_block (ho1 _ (by omega))
  have hB1 := (hB.alloc (.cells z8.toArray 57)).of_block (ho1 _ (by omega))
  have hR1 := (hR.alloc (.cells z8.toArray 57)).of_block (ho1 _ (by omega))
  clear hH hB hR hw1 ho1 hb1 hs1 hX0
  go_wp2_with (guard_target =~ wpList _ _ _ (Oper.mk _ (Op.load _ _) _ _ _ _ :: _) _ _; refine wpList_load_arr 64 rfl rfl rfl hB1 (by kernel_rfl) hv64.out ?_)
  (with_reducible refine (words_ok b hb.out _).mono ?_)
  rintro e w2 ⟨rfl, hw2⟩
  have hH2 := hH1.since hw2
  have hR2 := hR1.since hw2
  have hX2 := hX1.since hw2
  have hw2' := hw1'.trans (hw2.mono hw1'.size)
  clear hH1 hB1 hR1 hX1 hw1' hw2
  obtain ⟨W, hW⟩ : ∃ W, wl b 64 = W := ⟨_, rfl⟩
  have hWl : W.length = 64 := by rw [← hW, wl_len]
  rw [hW]
  replace hW : Unit → wl b 64 = W := fun _ => hW
  replace hWl := Lib.hid hWl
  go_wp2
  go_loopw [12] (fun t wr => ∃ i : Nat, i ≤ 64 ∧ t = .int .i64 i ∧ Below w.heap.size w wr ∧ Arr wr w.heap.size (cells32 h) ∧ Arr wr (w.heap.size + 1 + 1) z8 ∧ Arr wr (w.heap.size + 1 + 1 + 1) (cells32 (rs h W i))) (fun t _ => 64 - (intOf t).toNat)
  case atStart => exact ⟨0, by omega, rfl, hw2', hH2, hR2, hX2⟩
  case round =>
    obtain ⟨i, hi, rfl, hw, hH, hR, hX⟩ := hrel
    by_cases hlt : i < 64
    · have hixl : i < W.length := by rw [hWl.out]; exact hlt
      obtain ⟨x, hx⟩ : ∃ x, W.getD i 0 = x := ⟨_, rfl⟩
      obtain ⟨k, hk⟩ : ∃ k, roots.getD i 0 = k := ⟨_, rfl⟩
      have hix : ∀ V, (Instr.index 62 (.agg (cells32 W).toArray) (.int .i64 (i : Int))).run Tryd.prog V = .ok (.int .u32 (x.toNat : Int)) V := fun V =>
        run_index_agg (P := Tryd.prog) V 62 56 64 .i64 .u32 Tryd.underlying62 Tryd.underlying56 (by kernel_rfl) (cells32 W) i hlt _ (by rw [cells32_get hixl, ← hx]; simp [hixl])
      have hT := (hK.since hw).2 i hlt
      rw [hk] at hT
      obtain ⟨s, hs⟩ : ∃ s, k + x = s := ⟨_, rfl⟩
      have E := u_add k x
      rw [hs] at E
      have hr8 : Hid ((rs h W i).length = 8) := Lib.hid (rs_len h W hh.out i)
      have hn : Hid (rnd (rs h W i) s = rs h W (i + 1)) := Lib.hid (by rw [rs, ← hs, ← hx, ← hk])
      replace hx := Lib.hid hx
      replace hk := Lib.hid hk
      replace hs := Lib.hid hs
      clear hixl
      go_wp2_with fail
      refine wp_region_still_tail 6 (by kernel_rfl) (by kernel_rfl) ?_
      simp only [List.take_succ_cons, List.take_zero, List.drop_succ_cons, List.drop_zero]
      refine wpStill_load_arr 8 rfl rfl rfl hX.drew (by kernel_rfl) (by rw [cells32_len, hr8.out]) ?_
      repeat still_step
      refine wpStill_nil ?_
      change wpList _ _ _ _ _ wr.drew
      have hH' := hH.drew
      have hR' := hR.drew
      have hX' := hX.drew
      have hw' := hw.drew
      clear hH hR hX hw hT E hix
      generalize wr.drew = V at hH' hR' hX' hw' ⊢
      go_wp2_with fail
      (with_reducible refine (round_ok (rs h W i) hr8.out s _).mono ?_)
      rintro e V2 ⟨rfl, hV2⟩
      have hH2 := hH'.since hV2
      have hR2 := hR'.since hV2
      have hX2 := hX'.since hV2
      have hw2 := hw'.trans (hV2.mono hw'.size)
      clear hH' hR' hX' hw' hV2
      go_wp2_with (guard_target =~ wpList _ _ _ (Oper.mk _ (Op.store _ _ _) _ _ _ _ :: _) _ _; refine wpList_store_arr (cs' := cells32 (rnd (rs h W i) s)) 8 rfl rfl rfl rfl hX2 (by kernel_rfl) (by rw [cells32_len, hr8.out]) rfl (cells32_one _) ?_)
      intro V3 hX3 ho3 hb3 hs3
      have hH3 := hH2.of_block (ho3 _ (by omega))
      have hR3 := hR2.of_block (ho3 _ (by omega))
      have hw3 := hw2.trans (hb3.mono (Nat.le_trans (Nat.le_add_right _ 1) (Nat.le_trans (Nat.le_add_right _ 1) (Nat.le_add_right _ 1))))
      rw [hn.out] at hX3
      clear hH2 hR2 hX2 hw2 ho3 hb3 hs3
      go_wp2
      go_roundw
      case rel => exact ⟨i + 1, by omega, by go_num, hw3, hH3, hR3, hX3⟩
      case measure => simp [intOf]; omega
    · obtain rfl : i = 64 := by omega
      obtain ⟨r, hr⟩ : ∃ r, rs h W 64 = r := ⟨_, rfl⟩
      have hrl : r.length = 8 := by rw [← hr, rs_len h W hh.out]
      rw [hr, ← adds_zero r h hrl] at hX
      have hfin : Unit → adds r h 8 = blk h b := fun _ => by rw [← hr, ← hW ()]; rfl
      replace hr : Unit → rs h W 64 = r := fun _ => hr
      replace hrl := Lib.hid hrl
      replace hX : Arr wr (w.heap.size + 1 + 1 + 1) (cells32 (adds r h 0)) := hX
      go_wp2
      go_loopw [24] (fun t wr => ∃ i : Nat, i ≤ 8 ∧ t = .int .i64 i ∧ Below w.heap.size w wr ∧ Arr wr w.heap.size (cells32 h) ∧ Arr wr (w.heap.size + 1 + 1) z8 ∧ Arr wr (w.heap.size + 1 + 1 + 1) (cells32 (adds r h i))) (fun t _ => 8 - (intOf t).toNat)
      case atStart => exact ⟨0, by omega, rfl, hw, hH, hR, hX⟩
      case round =>
        clear hw hH hR hX
        obtain ⟨i, hi, rfl, hw, hH, hR, hX⟩ := hrel
        by_cases hlt : i < 8
        · obtain ⟨x, hx⟩ : ∃ x, r.getD i 0 = x := ⟨_, rfl⟩
          obtain ⟨k, hk⟩ : ∃ k, h.getD i 0 = k := ⟨_, rfl⟩
          have c1 := hX.cell (v := .int .u32 (x.toNat : Int)) (by rw [cells32, List.getElem?_map, adds_get r h i i hlt, if_neg (by omega), hx]; rfl)
          have c2 := hH.cell (v := .int .u32 (k.toNat : Int)) (by rw [cells32_get (by rw [hh.out]; exact hlt), ← hk]; simp [hh.out, hlt])
          have f1 := hX.frozen i
          obtain ⟨s, hs⟩ : ∃ s, x + k = s := ⟨_, rfl⟩
          have E := u_add x k
          rw [hs] at E
          have hset := hX.set i (c32 s)
          rw [cells32, ← List.map_set, adds_set r h i hlt s (by rw [hx, hk, hs])] at hset
          have hi8 : (i : Int) < 8 := by omega
          replace hset := Lib.hid hset
          replace hx := Lib.hid hx
          replace hk := Lib.hid hk
          replace hs := Lib.hid hs
          go_wp2_with fail
          go_still_tail 8, (by kernel_rfl)
          change wpList _ _ _ _ _ wr.drew
          have c1' : wr.drew.cell? ⟨w.heap.size + 1 + 1 + 1, i, none⟩ = some (.int .u32 (x.toNat : Int)) := c1
          have f1' : wr.drew.frozen? ⟨w.heap.size + 1 + 1 + 1, i, none⟩ = false := f1
          have hH' := hH.drew
          have hR' := hR.drew
          have hw' := hw.drew
          have hset' : Hid (Arr (wr.drew.setCell ⟨w.heap.size + 1 + 1 + 1, i, none⟩ (c32 s)) (w.heap.size + 1 + 1 + 1) (cells32 (adds r h (i + 1)))) := hset
          clear c1 c2 f1 hset hH hR hw hX E
          generalize wr.drew = V at c1' f1' hH' hR' hw' hset' ⊢
          go_wp2
          go_roundw
          case rel => exact ⟨_, _, _, _, _, _, _, _, _, _, _, _, _, ⟨i + 1, by omega, by go_num, hw'.setCell (by show _ ≤ w.heap.size + 1 + 1 + 1; omega) _, hH'.other (by show _ ≠ w.heap.size + 1 + 1 + 1; omega) _, hR'.other (by show _ ≠ w.heap.size + 1 + 1 + 1; omega) _, hset'.out⟩, rfl⟩
          case measure => simp [intOf]; omega
        · obtain rfl : i = 8 := by omega
          go_wp2_with (first
            | (guard_target =~ wpList _ _ _ (Oper.mk _ (Op.load _ _) _ _ _ _ :: _) _ _; refine wpList_load_arr 8 rfl rfl rfl hX (by kernel_rfl) (by rw [cells32_len, adds_len]) ?_)
            | (guard_target =~ wpList _ _ _ (Oper.mk _ (Op.store _ _ _) _ _ _ _ :: _) _ _; refine wpList_store_arr (cs' := cells32 (adds r h 8)) 8 rfl rfl rfl rfl hR (by kernel_rfl) rfl (by rw [cells32_len, adds_len]) (cells32_one _) ?_))
          intro V hR2 ho2 hb2 hs2
          have hw2 := hw.trans (hb2.mono (Nat.le_trans (Nat.le_add_right _ 1) (Nat.le_add_right _ 1)))
          clear hX hR hH ho2 hb2 hs2
          go_wp2
          exact ret_arr rfl (w.heap.size + 1 + 1) _ _ rfl hR2 Tryd.underlying57 rfl (by rw [cells32_len, adds_len]; kernel_rfl) rfl ⟨by rw [hfin ()], hw2⟩
end Go.Proofs.YtmgfgbdfmdblhaaDoor.sha
