/-
  THE CONTRACT OF sha.words: a block's 64 numbers.
-/
import Derived.Test.YtmgfgbdfmdblhaaDoorSha
namespace Go.Proofs.YtmgfgbdfmdblhaaDoor.sha
open Go.RowKit Go.Proofs.YtmgfgbdfmdblhaaDoor.octets
set_option linter.unusedVariables false
theorem zeros64 : cells32 (List.replicate 64 0) = List.replicate 64 (.int .u32 0) := by simp [cells32, c32]
set_option maxRecDepth 100000 in
set_option maxHeartbeats 4000000 in
theorem words_ok (b : List UInt8) (hb : b.length = 64) (w : World) :
    Calls Tryd.prog 30 #[.agg (vals b).toArray] w fun e w' => e = .returned (.agg (cells32 (wl b 64)).toArray) ∧ Below w.heap.size w w' := by
  go_enter Tryd.func30, Tryd.ntmps30
  go_wp2
  go_loopw [7] (fun t wr => ∃ i : Nat, i ≤ 64 ∧ t = .int .i64 i ∧ Below w.heap.size w wr ∧ Arr wr w.heap.size (vals b) ∧ Arr wr (w.heap.size + 1) (cells32 (wpart b 0)) ∧ Arr wr (w.heap.size + 1 + 1) (cells32 (wpart b i))) (fun t _ => 64 - (intOf t).toNat)
  case atStart =>
    have hb0 := ((Below.refl w.heap.size w).alloc (Nat.le_refl _) (.cells (vals b).toArray 47)).alloc (by simp) (.cells (List.replicate 64 (.int .u32 0)).toArray 62)
    have h1 := ((Arr.new w (vals b) 47).alloc (.cells (cells32 (wpart b 0)).toArray 62)).alloc (.cells (cells32 (wpart b 0)).toArray 62)
    have h2 := (Arr.new (w.alloc (.cells (vals b).toArray 47)) (cells32 (wpart b 0)) 62).alloc (.cells (cells32 (wpart b 0)).toArray 62)
    have h3 := Arr.new ((w.alloc (.cells (vals b).toArray 47)).alloc (.cells (cells32 (wpart b 0)).toArray 62)) (cells32 (wpart b 0)) 62
    simp only [World.size_alloc] at h2 h3
    exact ⟨0, by omega, rfl, by go_grown, h1, h2, h3⟩
  case round =>
    obtain ⟨i, hi, rfl, hw, hB, hR, hT⟩ := hrel
    by_cases hlt : i < 64
    · by_cases h16 : i < 16
      · obtain ⟨c0, c1, c2, c3, e4⟩ := four_of b (4 * i) (by omega)
        have hc := cut_block w.heap.size i h16
        have hf := fit_four ⟨w.heap.size, 4 * i, none⟩ (64 - 4 * i) (64 - 4 * i) (by omega)
        have hl := Lib.hid (part_four hB (4 * i) c0 c1 c2 c3 e4)
        have ex : UInt32.ofNat (num [c0, c1, c2, c3]) = if i < 16 then wrd b i else nxt (wl b i) := by rw [if_pos h16, wrd, e4]
        replace e4 := Lib.hid e4
        replace ex := Lib.hid ex
        go_wp2_with (guard_target =~ wpList _ _ _ (Oper.mk _ (Op.load _ _) _ _ _ _ :: _) _ _; refine wpList_load_mid rfl 66 (.tmp 16) rfl w.heap.size (4 * i) rfl _ _ hl.out Tryd.underlying66 rfl (by kernel_rfl) ?_)
        (with_reducible refine (word_ok c0 c1 c2 c3 _).mono ?_)
        rintro e w' ⟨rfl, hw'⟩
        have hT' := hT.since hw'
        have hB' := hB.since hw'
        have hR' := hR.since hw'
        have hw2 := hw.trans (hw'.mono hw.size)
        obtain ⟨old, ho⟩ : ∃ v, (cells32 (wpart b i))[i]? = some v := ⟨_, List.getElem?_eq_getElem (by rw [cells32_len, wpart_len b hi]; exact hlt)⟩
        have c4 := hT'.cell ho
        have fr := hT'.frozen i
        have hset := hT'.set i (c32 (UInt32.ofNat (num [c0, c1, c2, c3])))
        rw [cells32, ← List.map_set, wpart_set b hlt _ ex.out] at hset
        replace hset := Lib.hid hset
        replace ho := Lib.hid ho
        clear hT hB hR hc hf hl
        go_wp2
        go_roundw
        case rel => exact ⟨i + 1, by omega, by go_num, hw2.setCell (by show _ ≤ w.heap.size + 1 + 1; omega) _, hB'.other (by show _ ≠ w.heap.size + 1 + 1; omega) _, hR'.other (by show _ ≠ w.heap.size + 1 + 1; omega) _, hset.out⟩
        case measure => simp [intOf]; omega
      · obtain ⟨j, hj⟩ : ∃ j, i = j + 16 := ⟨i - 16, by omega⟩
        have e15 : (i : Int) - 15 = ((j + 1 : Nat) : Int) := by omega
        have e2 : (i : Int) - 2 = ((j + 14 : Nat) : Int) := by omega
        obtain ⟨x, hx⟩ : ∃ x, (wl b i).getD (j + 1) 0 = x := ⟨_, rfl⟩
        obtain ⟨y, hy⟩ : ∃ y, (wl b i).getD (j + 14) 0 = y := ⟨_, rfl⟩
        obtain ⟨p, hp⟩ : ∃ p, (wl b i).getD j 0 = p := ⟨_, rfl⟩
        obtain ⟨q, hq⟩ : ∃ q, (wl b i).getD (j + 9) 0 = q := ⟨_, rfl⟩
        have c15 : wr.cell? ⟨w.heap.size + 1 + 1, j + 1, none⟩ = some (.int .u32 (x.toNat : Int)) := hT.cell (by rw [cells32, List.getElem?_map, wpart_get b (by omega) hi, hx]; rfl)
        have c2 : wr.cell? ⟨w.heap.size + 1 + 1, j + 14, none⟩ = some (.int .u32 (y.toNat : Int)) := hT.cell (by rw [cells32, List.getElem?_map, wpart_get b (by omega) hi, hy]; rfl)
        have c16 : wr.cell? ⟨w.heap.size + 1 + 1, j, none⟩ = some (.int .u32 (p.toNat : Int)) := hT.cell (by rw [cells32, List.getElem?_map, wpart_get b (by omega) hi, hp]; rfl)
        have c7 : wr.cell? ⟨w.heap.size + 1 + 1, j + 9, none⟩ = some (.int .u32 (q.toNat : Int)) := hT.cell (by rw [cells32, List.getElem?_map, wpart_get b (by omega) hi, hq]; rfl)
        have en : nxt (wl b i) = p + q + ss0 x + ss1 y := by
          rw [nxt, wl_len, ← hx, ← hy, ← hp, ← hq, show i - 16 = j by omega, show i - 7 = j + 9 by omega, show i - 15 = j + 1 by omega, show i - 2 = j + 14 by omega]
        have hset := hT.set i (c32 (p + q + ss0 x + ss1 y))
        rw [cells32, ← List.map_set, wpart_set b hlt _ (by rw [if_neg h16, en])] at hset
        obtain ⟨k9, hk9⟩ : ∃ k9, j + 9 = k9 := ⟨_, rfl⟩
        rw [hk9] at c7
        have j64 : (j : Int) < 64 := by omega
        have k64 : (k9 : Int) < 64 := by omega
        have E16 : IntKind.i64.wrap ((i : Int) - 16) = (j : Int) := by rw [IntKind.wrap_i64]; omega
        have E7 : IntKind.i64.wrap ((i : Int) - 7) = (k9 : Int) := by rw [IntKind.wrap_i64]; omega
        clear en hx hy hp hq hk9
        replace hset := Lib.hid hset
        replace E16 := Lib.hid E16
        replace E7 := Lib.hid E7
        replace hj := Lib.hid hj
        go_wp2_with fail
        go_quiet (fail)
        replace E16 := E16.out
        replace E7 := E7.out
        have hT' := hT.drewN nq
        have hB' := hB.drewN nq
        have hR' := hR.drewN nq
        have hw' := below_drewN hw nq
        have c16' : (wr.drewN nq).cell? ⟨w.heap.size + 1 + 1, j, none⟩ = some (.int .u32 (p.toNat : Int)) := c16
        have c7' : (wr.drewN nq).cell? ⟨w.heap.size + 1 + 1, k9, none⟩ = some (.int .u32 (q.toNat : Int)) := c7
        have hset' : Hid (Arr ((wr.drewN nq).setCell ⟨w.heap.size + 1 + 1, i, none⟩ (c32 (p + q + ss0 x + ss1 y))) (w.heap.size + 1 + 1) (cells32 (wpart b (i + 1)))) := hset
        clear c15 c2 c16 c7 e15 e2 hT hB hR hw hset
        generalize wr.drewN nq = W at c16' c7' hT' hB' hR' hw' hset' ⊢
        go_wp2_with fail
        refine wp_region_still_tail 29 (by kernel_rfl) (by kernel_rfl) ?_
        simp only [List.take_succ_cons, List.take_zero, List.drop_succ_cons, List.drop_zero]
        repeat still_step
        still_call (still_of (turned_at _ 7 7 rfl (by decide) (by decide) _))
        repeat still_step
        still_call (still_of (turned_at _ 18 18 rfl (by decide) (by decide) _))
        repeat still_step
        still_call (still_of (turned_at _ 17 17 rfl (by decide) (by decide) _))
        repeat still_step
        still_call (still_of (turned_at _ 19 19 rfl (by decide) (by decide) _))
        repeat still_step
        refine wpStill_nil ?_
        change wpList _ _ _ _ _ W.drew
        obtain ⟨old, ho⟩ : ∃ v, (cells32 (wpart b i))[i]? = some v := ⟨_, List.getElem?_eq_getElem (by rw [cells32_len, wpart_len b hi]; exact hlt)⟩
        have c4 : W.drew.cell? ⟨w.heap.size + 1 + 1, i, none⟩ = some old := hT'.cell ho
        have fr : W.drew.frozen? ⟨w.heap.size + 1 + 1, i, none⟩ = false := hT'.frozen i
        have hB2 : Arr W.drew w.heap.size (vals b) := hB'
        have hR2 : Arr W.drew (w.heap.size + 1) (cells32 (wpart b 0)) := hR'
        have hw2 : Below w.heap.size w W.drew := hw'.drew
        have hset2 : Hid (Arr (W.drew.setCell ⟨w.heap.size + 1 + 1, i, none⟩ (c32 (p + q + ss0 x + ss1 y))) (w.heap.size + 1 + 1) (cells32 (wpart b (i + 1)))) := hset'
        replace ho := Lib.hid ho
        clear c16' c7' hT' hB' hR' hw' hset' E16 E7
        generalize W.drew = V at c4 fr hB2 hR2 hw2 hset2 ⊢
        go_wp2
        go_roundw
        case rel =>
          refine ⟨i + 1, by omega, by go_num, hw2.setCell (by show _ ≤ w.heap.size + 1 + 1; omega) _, hB2.other (by show _ ≠ w.heap.size + 1 + 1; omega) _, hR2.other (by show _ ≠ w.heap.size + 1 + 1; omega) _, ?_⟩
          simp only [shr_int x 3 8 (by decide), shr_int y 10 1024 (by decide), u_xor, u_sum4]
          exact hset2.out
        case measure => simp [intOf]; omega
    · obtain rfl : i = 64 := by omega
      obtain ⟨C, hC⟩ : ∃ C, cells32 (wpart b 64) = C := ⟨_, rfl⟩
      have hCl : C.length = 64 := by rw [← hC, cells32_len, wpart_len b (by omega)]
      have hone : Hid (C.toArray.all (·.oneCell') = true) := Lib.hid (by rw [← hC]; exact all_oneCell_toArray (cells32_one (wpart b 64)))
      have hend : Hid (C = cells32 (wl b 64)) := Lib.hid (by rw [← hC]; simp [wpart])
      rw [hC] at hT
      have hl64 := Lib.hid hT.range
      have ht64 : Hid (wr.there (w.heap.size + 1) 0 C.toArray.size) := Lib.hid (by have := hR.there; simpa [cells32_len, wpart_len, hCl] using this)
      have hsz : Hid ((Tryd.prog.info? 62).map (·.size) = some C.length) := Lib.hid (by rw [hCl]; kernel_rfl)
      have hres := hR.setAll C (by rw [hCl, cells32_len, wpart_len b (by omega)])
      have hw2 := setCells_below (w.heap.size + 1) (Nat.le_add_right _ _) C 0 wr hw
      replace hC := Lib.hid hC
      replace hCl := Lib.hid hCl
      replace hres := Lib.hid hres
      clear hT hR hB
      go_wp2_with (first
        | (guard_target =~ wpList _ _ _ (Oper.mk _ (Op.load _ _) _ _ _ _ :: _) _ _; refine wpList_load_mid rfl 62 (.tmp 3) rfl (w.heap.size + 1 + 1) 0 rfl _ _ hl64.out Tryd.underlying62 rfl hsz.out ?_)
        | (guard_target =~ wpList _ _ _ (Oper.mk _ (Op.store _ _ _) _ _ _ _ :: _) _ _; refine wpList_store_mid rfl 62 (.tmp 2) (.tmp 58) rfl (w.heap.size + 1) 0 C.toArray rfl rfl ht64.out hsz.out hone.out ?_))
      exact ret_arr rfl (w.heap.size + 1) C _ rfl hres.out Tryd.underlying62 rfl hsz.out rfl ⟨by rw [hend.out], hw2⟩
end Go.Proofs.YtmgfgbdfmdblhaaDoor.sha
