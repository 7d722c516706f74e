/-
  THE CONTRACT OF THE REFERENCE's Block.
-/
import Derived.Test.YtcaeaejbccgpoaaDoorShaRoots
import Derived.Deep.RegionHeld3
namespace Go.Proofs.YtcaeaejbccgpoaaDoor.sha
open Go.RowKit Go.Proofs.YtcaeaejbccgpoaaDoor.octets
set_option linter.unusedVariables false
set_option maxRecDepth 100000 in
set_option maxHeartbeats 2000000 in
theorem rblock_ok (h : List UInt32) (b : List UInt8) (hh : h.length = 8) (hb : b.length = 64) (w : World) :
    Calls Tryd.prog 26 #[.agg (cells32 h).toArray, .agg (vals b).toArray] w fun e w' => e = .returned (.agg (cells32 (blk h b)).toArray) ∧ Below w.heap.size w w' := by
  have hh8 : Hid ((cells32 h).length = 8) := Lib.hid (by rw [cells32_len, hh])
  have hv64 : Hid ((vals b).length = 64) := Lib.hid (by rw [vals_len, hb])
  have hw1 : Below w.heap.size w ((((w.alloc (.cells (cells32 h).toArray 38)).alloc (.cells (vals b).toArray 33)).alloc (.cells z8.toArray 38)).alloc (.cells (cells32 (wpart b 0)).toArray 46)) := by go_grown
  have hH := (((Arr.new w (cells32 h) 38).alloc (.cells (vals b).toArray 33)).alloc (.cells z8.toArray 38)).alloc (.cells (cells32 (wpart b 0)).toArray 46)
  have hB := ((Arr.new (w.alloc (.cells (cells32 h).toArray 38)) (vals b) 33).alloc (.cells z8.toArray 38)).alloc (.cells (cells32 (wpart b 0)).toArray 46)
  have hR := (Arr.new ((w.alloc (.cells (cells32 h).toArray 38)).alloc (.cells (vals b).toArray 33)) z8 38).alloc (.cells (cells32 (wpart b 0)).toArray 46)
  have hX := Arr.new (((w.alloc (.cells (cells32 h).toArray 38)).alloc (.cells (vals b).toArray 33)).alloc (.cells z8.toArray 38)) (cells32 (wpart b 0)) 46
  simp only [World.size_alloc] at hB hR hX
  replace hh := Lib.hid hh
  replace hb := Lib.hid hb
  go_enter Tryd.func26, Tryd.ntmps26
  go_wp2_with (guard_target =~ wpList _ _ _ (Oper.mk _ (Op.store _ _ _) _ _ _ _ :: _) _ _; refine wpList_store_arr (cs' := cells32 (wpart b 0)) 64 rfl rfl rfl rfl hX (by kernel_rfl) (by rw [cells32_len, wpart_len b (by omega)]) (by rw [cells32_len, wpart_len b (by omega)]) (cells32_one _) ?_)
  intro w1 hX1 ho1 hb1 hs1
  have hw1' := hw1.trans (hb1.mono (Nat.le_trans (Nat.le_add_right _ 1) (Nat.le_trans (Nat.le_add_right _ 1) (Nat.le_add_right _ 1))))
  have hH1 := hH.of_block (ho1 _ (by omega))
  have hB1 := hB.of_block (ho1 _ (by omega))
  have hR1 := hR.of_block (ho1 _ (by omega))
  clear hH hB hR hX hw1 ho1 hb1 hs1
  go_wp2
  go_loopw [6] (fun t wr => ∃ i : Nat, i ≤ 16 ∧ t = .int .i64 i ∧ Below w.heap.size w wr ∧ Arr wr w.heap.size (cells32 h) ∧ Arr wr (w.heap.size + 1) (vals b) ∧ Arr wr (w.heap.size + 1 + 1) z8 ∧ Arr wr (w.heap.size + 1 + 1 + 1) (cells32 (wpart b i))) (fun t _ => 16 - (intOf t).toNat)
  case atStart => exact ⟨0, by omega, rfl, hw1', hH1, hB1, hR1, hX1⟩
  case round =>
    obtain ⟨i, hi, rfl, hw, hH, hB, hR, hX⟩ := hrel
    by_cases hlt : i < 16
    · obtain ⟨c0, c1, c2, c3, e4⟩ := four_of b (4 * i) (by rw [hb.out]; omega)
      obtain ⟨q0, hq0⟩ : ∃ q, 4 * i = q := ⟨_, rfl⟩
      obtain ⟨q1, hq1⟩ : ∃ q, 4 * i + 1 = q := ⟨_, rfl⟩
      obtain ⟨q2, hq2⟩ : ∃ q, 4 * i + 2 = q := ⟨_, rfl⟩
      obtain ⟨q3, hq3⟩ : ∃ q, 4 * i + 3 = q := ⟨_, rfl⟩
      have Q0 : IntKind.i64.wrap (4 * (i : Int)) = (q0 : Int) := by rw [IntKind.wrap_i64]; omega
      have Q1 : IntKind.i64.wrap ((q0 : Int) + 1) = (q1 : Int) := by rw [IntKind.wrap_i64]; omega
      have Q2 : IntKind.i64.wrap ((q0 : Int) + 2) = (q2 : Int) := by rw [IntKind.wrap_i64]; omega
      have Q3 : IntKind.i64.wrap ((q0 : Int) + 3) = (q3 : Int) := by rw [IntKind.wrap_i64]; omega
      have l0 : (q0 : Int) < 64 := by omega
      have l1 : (q1 : Int) < 64 := by omega
      have l2 : (q2 : Int) < 64 := by omega
      have l3 : (q3 : Int) < 64 := by omega
      have hp := part_four hB (4 * i) c0 c1 c2 c3 e4
      have k0 : wr.cell? ⟨w.heap.size + 1, q0, none⟩ = some (.int .u8 (c0.toNat : Int)) := by rw [← hq0]; exact hp 0 _ rfl
      have k1 : wr.cell? ⟨w.heap.size + 1, q1, none⟩ = some (.int .u8 (c1.toNat : Int)) := by rw [← hq1]; exact hp 1 _ rfl
      have k2 : wr.cell? ⟨w.heap.size + 1, q2, none⟩ = some (.int .u8 (c2.toNat : Int)) := by rw [← hq2]; exact hp 2 _ rfl
      have k3 : wr.cell? ⟨w.heap.size + 1, q3, none⟩ = some (.int .u8 (c3.toNat : Int)) := by rw [← hq3]; exact hp 3 _ rfl
      obtain ⟨v, hv⟩ : ∃ v, UInt32.ofNat (num [c0, c1, c2, c3]) = v := ⟨_, rfl⟩
      have E := four_or c0 c1 c2 c3
      rw [hv] at E
      have hset := hX.set i (c32 v)
      rw [cells32, ← List.map_set, wpart_set b (by omega) v (by rw [if_pos hlt, wrd, e4, hv])] at hset
      have f1 := hX.frozen i
      obtain ⟨old, ho⟩ : ∃ v, (cells32 (wpart b i))[i]? = some v := ⟨_, List.getElem?_eq_getElem (by rw [cells32_len, wpart_len b (by omega)]; omega)⟩
      have k4 := hX.cell ho
      have hi64 : (i : Int) < 64 := by omega
      replace hset := Lib.hid hset
      replace hv := Lib.hid hv
      replace ho : Unit → (cells32 (wpart b i))[i]? = some old := fun _ => ho
      clear hq0 hq1 hq2 hq3 hp e4
      go_wp2_with fail
      go_still_tail 31, (by kernel_rfl)
      change wpList _ _ _ _ _ wr.drew
      have k4' : wr.drew.cell? ⟨w.heap.size + 1 + 1 + 1, i, none⟩ = some old := k4
      have f1' : wr.drew.frozen? ⟨w.heap.size + 1 + 1 + 1, i, none⟩ = false := f1
      have hH' := hH.drew
      have hB' := hB.drew
      have hR' := hR.drew
      have hw' := hw.drew
      have hset' : Hid (Arr (wr.drew.setCell ⟨w.heap.size + 1 + 1 + 1, i, none⟩ (c32 v)) (w.heap.size + 1 + 1 + 1) (cells32 (wpart b (i + 1)))) := hset
      clear k0 k1 k2 k3 k4 f1 hset hH hB hR hw hX E Q0 Q1 Q2 Q3
      generalize wr.drew = V at k4' f1' hH' hB' hR' hw' hset' ⊢
      go_wp2
      go_roundw
      case rel => exact ⟨i + 1, by omega, by go_num, hw'.setCell (by show _ ≤ w.heap.size + 1 + 1 + 1; omega) _, hH'.other (by show _ ≠ w.heap.size + 1 + 1 + 1; omega) _, hB'.other (by show _ ≠ w.heap.size + 1 + 1 + 1; omega) _, hR'.other (by show _ ≠ w.heap.size + 1 + 1 + 1; omega) _, hset'.out⟩
      case measure => simp [intOf]; omega
    · obtain rfl : i = 16 := by omega
      simp only [show ((16 : Nat) : Int) = 16 from rfl]
      go_wp2
      clear hw1' hH1 hB1 hR1 hX1
      go_loopw [7] (fun t wr => ∃ i : Nat, 16 ≤ i ∧ i ≤ 64 ∧ t = .int .i64 i ∧ Below w.heap.size w wr ∧ Arr wr w.heap.size (cells32 h) ∧ Arr wr (w.heap.size + 1 + 1) z8 ∧ Arr wr (w.heap.size + 1 + 1 + 1) (cells32 (wpart b i))) (fun t _ => 64 - (intOf t).toNat)
      case atStart => exact ⟨16, by omega, by omega, rfl, hw, hH, hR, hX⟩
      case round =>
        clear hw hH hB hR hX
        obtain ⟨i, hi16, hi, rfl, hw, hH, hR, hX⟩ := hrel
        by_cases hlt : i < 64
        · obtain ⟨j, hj⟩ : ∃ j, i = j + 16 := ⟨i - 16, by omega⟩
          obtain ⟨k15, hk15⟩ : ∃ k, j + 1 = k := ⟨_, rfl⟩
          obtain ⟨k2, hk2⟩ : ∃ k, j + 14 = k := ⟨_, rfl⟩
          obtain ⟨k9, hk9⟩ : ∃ k, j + 9 = k := ⟨_, rfl⟩
          have e15 : (i : Int) - 15 = (k15 : Int) := by omega
          have e2 : (i : Int) - 2 = (k2 : Int) := by omega
          obtain ⟨x, hx⟩ : ∃ x, (wl b i).getD k15 0 = x := ⟨_, rfl⟩
          obtain ⟨y, hy⟩ : ∃ y, (wl b i).getD k2 0 = y := ⟨_, rfl⟩
          obtain ⟨p, hp⟩ : ∃ p, (wl b i).getD j 0 = p := ⟨_, rfl⟩
          obtain ⟨q, hq⟩ : ∃ q, (wl b i).getD k9 0 = q := ⟨_, rfl⟩
          have c15 : wr.cell? ⟨w.heap.size + 1 + 1 + 1, k15, none⟩ = some (.int .u32 (x.toNat : Int)) := hX.cell (by rw [cells32, List.getElem?_map, wpart_get b (by omega) hi, hx]; rfl)
          have c2 : wr.cell? ⟨w.heap.size + 1 + 1 + 1, k2, none⟩ = some (.int .u32 (y.toNat : Int)) := hX.cell (by rw [cells32, List.getElem?_map, wpart_get b (by omega) hi, hy]; rfl)
          have c16 : wr.cell? ⟨w.heap.size + 1 + 1 + 1, j, none⟩ = some (.int .u32 (p.toNat : Int)) := hX.cell (by rw [cells32, List.getElem?_map, wpart_get b (by omega) hi, hp]; rfl)
          have c7 : wr.cell? ⟨w.heap.size + 1 + 1 + 1, k9, none⟩ = some (.int .u32 (q.toNat : Int)) := hX.cell (by rw [cells32, List.getElem?_map, wpart_get b (by omega) hi, hq]; rfl)
          have en : nxt (wl b i) = p + q + ss0 x + ss1 y := by
            rw [nxt, wl_len, ← hx, ← hy, ← hp, ← hq, show i - 16 = j by omega, show i - 7 = k9 by omega, show i - 15 = k15 by omega, show i - 2 = k2 by omega]
          obtain ⟨v, hv⟩ : ∃ v, p + q + ss0 x + ss1 y = v := ⟨_, rfl⟩
          have hset := hX.set i (c32 v)
          rw [cells32, ← List.map_set, wpart_set b hlt v (by rw [if_neg (by omega), en, hv])] at hset
          have l1 : (k15 : Int) < 64 := by omega
          have l2 : (k2 : Int) < 64 := by omega
          have l3 : (j : Int) < 64 := by omega
          have l4 : (k9 : Int) < 64 := by omega
          have l5 : (i : Int) < 64 := by omega
          have n1 : Hid (j ≠ i) := Lib.hid (by omega)
          have n2 : Hid (k9 ≠ i) := Lib.hid (by omega)
          have E16 : (i : Int) - 16 = (j : Int) := by omega
          have E7 : (i : Int) - 7 = (k9 : Int) := by omega
          have F16 : IntKind.i64.wrap ((i : Int) - 16) = (j : Int) := by rw [IntKind.wrap_i64]; omega
          have F7 : IntKind.i64.wrap ((i : Int) - 7) = (k9 : Int) := by rw [IntKind.wrap_i64]; omega
          have hvs : Hid (p + q + (rotr x 7 ^^^ rotr x 18 ^^^ shr x 3) + (rotr y 17 ^^^ rotr y 19 ^^^ shr y 10) = v) := Lib.hid hv
          obtain ⟨old, ho⟩ : ∃ v, (cells32 (wpart b i))[i]? = some v := ⟨_, List.getElem?_eq_getElem (by rw [cells32_len, wpart_len b (by omega)]; omega)⟩
          have c4 := hX.cell ho
          have f1 := hX.frozen i
          clear en hx hy hp hq hv ho
          replace hset := Lib.hid hset
          replace hj := Lib.hid hj
          replace hk15 := Lib.hid hk15
          replace hk2 := Lib.hid hk2
          replace hk9 := Lib.hid hk9
          go_wp2_with fail
          clear c15 c2 e15 e2 E16 E7 l1 l2
          go_region_held3 (fun w' => w'.cell? ⟨w.heap.size + 1 + 1 + 1, j, none⟩ = some (.int .u32 (p.toNat : Int)) ∧ w'.cell? ⟨w.heap.size + 1 + 1 + 1, k9, none⟩ = some (.int .u32 (q.toNat : Int)))
            (first
              | exact ⟨c16, c7⟩
              | exact ⟨(World.cell?_setCell_other _ _ _ _ (fun e => n1.out (Eq.symm (congrArg Addr.off e)))).trans c16, (World.cell?_setCell_other _ _ _ _ (fun e => n2.out (Eq.symm (congrArg Addr.off e)))).trans c7⟩)
            (first
              | (with_reducible refine (turn_at x 7 7 rfl (by decide) (by decide) _).mono ?_; rintro e w' ⟨rfl, m0, rfl⟩)
              | (with_reducible refine (turn_at x 18 18 rfl (by decide) (by decide) _).mono ?_; rintro e w' ⟨rfl, m1, rfl⟩)
              | (with_reducible refine (turn_at y 17 17 rfl (by decide) (by decide) _).mono ?_; rintro e w' ⟨rfl, m2, rfl⟩)
              | (with_reducible refine (turn_at y 19 19 rfl (by decide) (by decide) _).mono ?_; rintro e w' ⟨rfl, n, rfl⟩))
          have hH' := hH.drewN (1 + m0 + m1 + m2 + n)
          have hR' := hR.drewN (1 + m0 + m1 + m2 + n)
          have hw' := below_drewN hw (1 + m0 + m1 + m2 + n)
          have hset' : Hid (Arr ((wr.drewN (1 + m0 + m1 + m2 + n)).setCell ⟨w.heap.size + 1 + 1 + 1, i, none⟩ (c32 v)) (w.heap.size + 1 + 1 + 1) (cells32 (wpart b (i + 1)))) := hset
          clear hH hR hw hX c16 c7 c4 f1 F16 F7 hset
          go_wp2
          go_roundw
          case rel =>
            refine ⟨i + 1, by omega, by omega, by go_num, hw'.setCell (by show _ ≤ w.heap.size + 1 + 1 + 1; omega) _, hH'.other (by show _ ≠ w.heap.size + 1 + 1 + 1; omega) _, hR'.other (by show _ ≠ w.heap.size + 1 + 1 + 1; omega) _, ?_⟩
            simp only [shr_int x 3 8 (by decide), shr_int y 10 1024 (by decide), u_xor, u_add']
            rw [hvs.out]
            exact hset'.out
          case measure => simp [intOf]; omega
        · obtain rfl : i = 64 := by omega
          simp only [show ((64 : Nat) : Int) = 64 from rfl]
          go_wp2_with fail
          (with_reducible refine (rroots_ok _).mono ?_)
          rintro e W1 ⟨rfl, hW1⟩
          have hH1 := hH.since hW1
          have hR1 := hR.since hW1
          have hX1 := hX.since hW1
          have hw1 := hw.trans (hW1.mono hw.size)
          clear hH hR hX hw hW1
          obtain ⟨C, hC⟩ : ∃ C, cells32 (wpart b 64) = C := ⟨_, rfl⟩
          have hz1 := hw1.size
          rw [hC] at hX1
          obtain ⟨W, hWl, hW⟩ : ∃ W : List UInt32, W.length = 64 ∧ W = wl b 64 := ⟨_, wl_len b 64, rfl⟩
          have hCW : C = cells32 W := by rw [← hC, hW]; simp [wpart]
          rw [hCW] at hX1
          have hWn : Unit → W = wl b 64 := fun _ => hW
          clear hC hCW hW C
          replace hWl := Lib.hid hWl
          have hK0 := Arr.new W1 z64 46
          go_wp2_with (guard_target =~ wpList _ _ _ (Oper.mk _ (Op.store _ _ _) _ _ _ _ :: _) _ _; refine wpList_store_arr (cs' := cells32 roots) 64 rfl rfl rfl rfl hK0 (by kernel_rfl) rfl rfl (cells32_one _) ?_)
          intro W2 hK2 ho2 hb2 hs2
          have hH2 := (hH1.alloc (.cells z64.toArray 46)).of_block (ho2 _ (by have := hH1.lt; omega))
          have hR2 := (hR1.alloc (.cells z64.toArray 46)).of_block (ho2 _ (by have := hR1.lt; omega))
          have hX2 := (hX1.alloc (.cells z64.toArray 46)).of_block (ho2 _ (by have := hX1.lt; omega))
          have hw2 := (hw1.alloc hz1 (.cells z64.toArray 46)).trans (hb2.mono hz1)
          have hg0 : w.heap.size + 1 + 1 + 1 < W1.heap.size := hX1.lt
          clear hH1 hR1 hX1 hw1 hK0 ho2 hb2 hs2 hz1
          generalize W1.heap.size = g at hK2 hg0 ⊢
          have hz2 := hw2.size
          have hg5 : g < W2.heap.size := hK2.lt
          have hV0 := Arr.new W2 z8 38
          go_wp2_with (first
            | (guard_target =~ wpList _ _ _ (Oper.mk _ (Op.load _ _) _ _ _ _ :: _) _ _; refine wpList_load_arr 8 rfl rfl rfl hH2 (by kernel_rfl) hh8.out ?_)
            | (guard_target =~ wpList _ _ _ (Oper.mk _ (Op.store _ _ _) _ _ _ _ :: _) _ _; refine wpList_store_arr (cs' := cells32 h) 8 rfl rfl rfl rfl hV0 (by kernel_rfl) rfl hh8.out (cells32_one h) ?_))
          intro W3 hV3 ho3 hb3 hs3
          have hH3 := (hH2.alloc (.cells z8.toArray 38)).of_block (ho3 _ (by omega))
          have hR3 := (hR2.alloc (.cells z8.toArray 38)).of_block (ho3 _ (by omega))
          have hX3 := (hX2.alloc (.cells z8.toArray 38)).of_block (ho3 _ (by omega))
          have hK3 := (hK2.alloc (.cells z8.toArray 38)).of_block (ho3 _ (by omega))
          have hw3 := (hw2.alloc hz2 (.cells z8.toArray 38)).trans (hb3.mono hz2)
          clear hH2 hR2 hX2 hK2 hw2 hV0 ho3 hb3 hs3 hz2
          generalize W2.heap.size = g5 at hV3 hg5 ⊢
          go_wp2
          go_loopw [12] (fun t wr => ∃ i : Nat, i ≤ 64 ∧ t = .int .i64 i ∧ Below w.heap.size w wr ∧ Arr wr w.heap.size (cells32 h) ∧ Arr wr (w.heap.size + 1 + 1) z8 ∧ Arr wr (w.heap.size + 1 + 1 + 1) (cells32 W) ∧ Arr wr g (cells32 roots) ∧ Arr wr g5 (cells32 (rs h W i))) (fun t _ => 64 - (intOf t).toNat)
          case atStart => exact ⟨0, by omega, rfl, hw3, hH3, hR3, hX3, hK3, hV3⟩
          case round =>
            clear hw3 hH3 hR3 hX3 hK3 hV3
            obtain ⟨i, hi, rfl, hw, hH, hR, hX, hK, hV⟩ := hrel
            by_cases hlt : i < 64
            · obtain ⟨x, hx⟩ : ∃ x, W.getD i 0 = x := ⟨_, rfl⟩
              obtain ⟨k, hk⟩ : ∃ k, roots.getD i 0 = k := ⟨_, rfl⟩
              obtain ⟨v0, v1, v2, v3, v4, v5, v6, v7, hv⟩ := eight (rs_len h W hh.out i)
              have hn : Unit → rs h W (i + 1) = rnd [v0, v1, v2, v3, v4, v5, v6, v7] (k + x) := fun _ => by rw [rs, hv, hx, hk]
              rw [hv] at hV
              have a0 := hV.cell (i := 0) rfl
              have a1 := hV.cell (i := 1) rfl
              have a2 := hV.cell (i := 2) rfl
              have a3 := hV.cell (i := 3) rfl
              have a4 := hV.cell (i := 4) rfl
              have a5 := hV.cell (i := 5) rfl
              have a6 := hV.cell (i := 6) rfl
              have a7 := hV.cell (i := 7) rfl
              simp only [c32] at a0 a1 a2 a3 a4 a5 a6 a7
              have ck : wr.cell? ⟨g, i, none⟩ = some (.int .u32 (k.toNat : Int)) := hK.cell (by rw [cells32_get (by rw [roots_len]; exact hlt), ← hk, List.getD_eq_getElem?_getD, List.getElem?_eq_getElem (by rw [roots_len]; exact hlt)]; rfl)
              have cx : wr.cell? ⟨w.heap.size + 1 + 1 + 1, i, none⟩ = some (.int .u32 (x.toNat : Int)) := hX.cell (by rw [cells32_get (by rw [hWl.out]; exact hlt), ← hx]; simp [hWl.out, hlt])
              have i64 : (i : Int) < 64 := by omega
              replace hx : Unit → W.getD i 0 = x := fun _ => hx
              replace hk : Unit → roots.getD i 0 = k := fun _ => hk
              replace hv : Unit → rs h W i = [v0, v1, v2, v3, v4, v5, v6, v7] := fun _ => hv
              go_wp2_with fail
              go_quiet ((go_at_call 31; first | (with_reducible exact Calls.quiet_of (turn_at v4 6 6 rfl (by decide) (by decide) _)) | (with_reducible exact Calls.quiet_of (turn_at v4 11 11 rfl (by decide) (by decide) _)) | (with_reducible exact Calls.quiet_of (turn_at v4 25 25 rfl (by decide) (by decide) _))))
              simp only [u_not', u_xor, u_and, u_sum4, u_add']
              obtain ⟨s, hs⟩ : ∃ s, v7 + (rotr v4 6 ^^^ rotr v4 11 ^^^ rotr v4 25) + ((v4 &&& v5) ^^^ (~~~v4 &&& v6)) + k + x = s := ⟨_, rfl⟩
              rw [hs]
              have hH' := hH.drewN nq
              have hR' := hR.drewN nq
              have hX' := hX.drewN nq
              have hK' := hK.drewN nq
              have hV' := hV.drewN nq
              have hw' := below_drewN hw nq
              clear hH hR hX hK hV hw ck cx a0 a1 a2 a3 a4 a5 a6 a7
              generalize wr.drewN nq = V at hH' hR' hX' hK' hV' hw' ⊢
              have a0 := hV'.cell (i := 0) rfl
              have a1 := hV'.cell (i := 1) rfl
              have a2 := hV'.cell (i := 2) rfl
              have a3 := hV'.cell (i := 3) rfl
              have a4 := hV'.cell (i := 4) rfl
              have a5 := hV'.cell (i := 5) rfl
              have a6 := hV'.cell (i := 6) rfl
              simp only [c32] at a0 a1 a2 a3 a4 a5 a6
              replace hs : Unit → _ := fun _ : Unit => hs
              go_wp2_with fail
              go_quiet ((go_at_call 31; first | (with_reducible exact Calls.quiet_of (turn_at v0 2 2 rfl (by decide) (by decide) _)) | (with_reducible exact Calls.quiet_of (turn_at v0 13 13 rfl (by decide) (by decide) _)) | (with_reducible exact Calls.quiet_of (turn_at v0 22 22 rfl (by decide) (by decide) _))))
              simp only [u_xor, u_and, u_or, u_add']
              obtain ⟨r, hr⟩ : ∃ r, (rotr v0 2 ^^^ rotr v0 13 ^^^ rotr v0 22) + (v0 &&& v1 ||| v0 &&& v2 ||| v1 &&& v2) = r := ⟨_, rfl⟩
              rw [hr]
              obtain ⟨o0, ho0⟩ : ∃ o, s + r = o := ⟨_, rfl⟩
              obtain ⟨o4, ho4⟩ : ∃ o, v3 + s = o := ⟨_, rfl⟩
              have E0 := u_add' s r
              have E4 := u_add' v3 s
              have G0 := u_add s r
              have G4 := u_add v3 s
              rw [ho0] at E0 G0
              rw [ho4] at E4 G4
              have hfin : Unit → rs h W (i + 1) = [o0, v0, v1, v2, o4, v4, v5, v6] := fun _ => by
                rw [hn (), ← ho0, ← ho4, ← hr, ← hs (), ch_xor, UInt32.add_assoc _ k x]; rfl
              clear hn hs hr ho0 ho4
              go_wp2_with (guard_target =~ wpList _ _ _ (Oper.mk _ (Op.store _ _ _) _ _ _ _ :: _) _ _; refine wpList_store_arr (cs' := cells32 [o0, v0, v1, v2, o4, v4, v5, v6]) 8 rfl rfl rfl rfl (hV'.drewN _) (by kernel_rfl) rfl rfl (cells32_one _) ?_)
              intro V3 hV3 ho3 hb3 hs3
              have hH3 := (hH'.drewN nq).of_block (ho3 _ (by omega))
              have hR3 := (hR'.drewN nq).of_block (ho3 _ (by omega))
              have hX3 := (hX'.drewN nq).of_block (ho3 _ (by omega))
              have hK3 := (hK'.drewN nq).of_block (ho3 _ (by omega))
              have hw3 := (below_drewN hw' nq).trans (hb3.mono (by omega))
              clear hH' hR' hX' hK' hV' hw' ho3 hb3 hs3 a0 a1 a2 a3 a4 a5 a6 E0 E4 G0 G4
              go_wp2
              go_roundw
              case rel => exact ⟨i + 1, by omega, by go_num, hw3, hH3, hR3, hX3, hK3, by rw [hfin ()]; exact hV3⟩
              case measure => simp [intOf]; omega
            · obtain rfl : i = 64 := by omega
              simp only [show ((64 : Nat) : Int) = 64 from rfl]
              obtain ⟨r, hr⟩ : ∃ r, rs h W 64 = r := ⟨_, rfl⟩
              have hrl : r.length = 8 := by rw [← hr, rs_len h W hh.out]
              rw [hr] at hV
              have hfin : Unit → adds h r 8 = blk h b := fun _ => by rw [← adds_swap r h 8 (Nat.le_refl _), ← hr, hWn ()]; rfl
              clear hr
              replace hrl := Lib.hid hrl
              have hH0 : Arr wr w.heap.size (cells32 (adds h r 0)) := by rw [adds_zero h r hh.out]; exact hH
              clear hH hX hK hWn
              go_wp2
              go_loopw [17] (fun t wr => ∃ i : Nat, i ≤ 8 ∧ t = .int .i64 i ∧ Below w.heap.size w wr ∧ Arr wr w.heap.size (cells32 (adds h r i)) ∧ Arr wr (w.heap.size + 1 + 1) z8 ∧ Arr wr g5 (cells32 r)) (fun t _ => 8 - (intOf t).toNat)
              case atStart => exact ⟨0, by omega, rfl, hw, hH0, hR, hV⟩
              case round =>
                clear hw hH0 hR hV
                obtain ⟨i, hi, rfl, hw, hH, hR, hV⟩ := hrel
                by_cases hlt : i < 8
                · obtain ⟨x, hx⟩ : ∃ x, h.getD i 0 = x := ⟨_, rfl⟩
                  obtain ⟨k, hk⟩ : ∃ k, r.getD i 0 = k := ⟨_, rfl⟩
                  have c1 := hH.cell (v := .int .u32 (x.toNat : Int)) (by rw [cells32, List.getElem?_map, adds_get h r i i hlt, if_neg (by omega), hx]; rfl)
                  have c2 := hV.cell (v := .int .u32 (k.toNat : Int)) (by rw [cells32_get (by rw [hrl.out]; exact hlt), ← hk]; simp [hrl.out, hlt])
                  have f1 := hH.frozen i
                  obtain ⟨s, hs⟩ : ∃ s, x + k = s := ⟨_, rfl⟩
                  have E := u_add x k
                  rw [hs] at E
                  have hset := hH.set i (c32 s)
                  rw [cells32, ← List.map_set, adds_set h r i hlt s (by rw [hx, hk, hs])] at hset
                  have hi8 : (i : Int) < 8 := by omega
                  have hg0 : g5 ≠ w.heap.size := by omega
                  replace hset := Lib.hid hset
                  clear hx hk hs
                  go_wp2_with fail
                  go_still_tail 9, (by kernel_rfl)
                  change wpList _ _ _ _ _ wr.drew
                  have c1' : wr.drew.cell? ⟨w.heap.size, i, none⟩ = some (.int .u32 (x.toNat : Int)) := c1
                  have f1' : wr.drew.frozen? ⟨w.heap.size, i, none⟩ = false := f1
                  have hV' := hV.drew
                  have hR' := hR.drew
                  have hw' := hw.drew
                  have hset' : Hid (Arr (wr.drew.setCell ⟨w.heap.size, i, none⟩ (c32 s)) w.heap.size (cells32 (adds h r (i + 1)))) := hset
                  clear c1 c2 f1 hset hH hR hw hV E
                  generalize wr.drew = V at c1' f1' hV' hR' hw' hset' ⊢
                  go_wp2
                  go_roundw
                  case rel => exact ⟨i + 1, by omega, by go_num, hw'.setCell (Nat.le_refl _) _, hset'.out, hR'.other (by show _ ≠ w.heap.size; omega) _, hV'.other hg0 _⟩
                  case measure => simp [intOf]; omega
                · obtain rfl : i = 8 := by omega
                  go_wp2_with (first
                    | (guard_target =~ wpList _ _ _ (Oper.mk _ (Op.load _ _) _ _ _ _ :: _) _ _; refine wpList_load_arr 8 rfl rfl rfl hH (by kernel_rfl) (by rw [cells32_len, adds_len]) ?_)
                    | (guard_target =~ wpList _ _ _ (Oper.mk _ (Op.store _ _ _) _ _ _ _ :: _) _ _; refine wpList_store_arr (cs' := cells32 (adds h r 8)) 8 rfl rfl rfl rfl hR (by kernel_rfl) rfl (by rw [cells32_len, adds_len]) (cells32_one _) ?_))
                  intro V hR2 ho2 hb2 hs2
                  have hw2 := hw.trans (hb2.mono (Nat.le_trans (Nat.le_add_right _ 1) (Nat.le_add_right _ 1)))
                  clear hV hR hH ho2 hb2 hs2
                  go_wp2
                  exact ret_arr rfl (w.heap.size + 1 + 1) _ _ rfl hR2 Tryd.underlying38 rfl (by rw [cells32_len, adds_len]; kernel_rfl) rfl ⟨by rw [hfin ()], hw2⟩
end Go.Proofs.YtcaeaejbccgpoaaDoor.sha
