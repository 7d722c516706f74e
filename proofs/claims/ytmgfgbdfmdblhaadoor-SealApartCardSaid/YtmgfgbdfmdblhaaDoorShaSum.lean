/-
  THE CONTRACTS OF allBytes, and of Sum.
-/
import Derived.Test.YtmgfgbdfmdblhaaDoorShaSumMath
import Derived.Test.YtmgfgbdfmdblhaaDoorShaPad
import Derived.Test.YtmgfgbdfmdblhaaDoorShaRoots
namespace Go.Proofs.YtmgfgbdfmdblhaaDoor.sha
open Go.RowKit Go.Proofs.YtmgfgbdfmdblhaaDoor.octets
set_option linter.unusedVariables false
def z32 : List Value := List.replicate 32 (.int .u8 0)
theorem z32_vals : z32 = vals (List.replicate 32 0) := by simp [z32, vals]
set_option maxRecDepth 100000 in
set_option maxHeartbeats 1000000 in
theorem allBytes_ok (h : List UInt32) (hh : h.length = 8) (w : World) :
    Calls Tryd.prog 28 #[.agg (cells32 h).toArray] w fun e w' => e = .returned (.agg (vals (allB h)).toArray) ∧ Below w.heap.size w w' := by
  have hh8 : Hid ((cells32 h).length = 8) := Lib.hid (by rw [cells32_len, hh])
  have hw1 : Below w.heap.size w (((w.alloc (.cells (cells32 h).toArray 57)).alloc (.cells z32.toArray 22)).alloc (.cells z32.toArray 22)) := by go_grown
  have hH := ((Arr.new w (cells32 h) 57).alloc (.cells z32.toArray 22)).alloc (.cells z32.toArray 22)
  have hR := (Arr.new (w.alloc (.cells (cells32 h).toArray 57)) z32 22).alloc (.cells z32.toArray 22)
  have hX := Arr.new ((w.alloc (.cells (cells32 h).toArray 57)).alloc (.cells z32.toArray 22)) z32 22
  simp only [World.size_alloc] at hR hX
  replace hh := Lib.hid hh
  go_enter Tryd.func28, Tryd.ntmps28
  go_wp2_with (guard_target =~ wpList _ _ _ (Oper.mk _ (Op.load _ _) _ _ _ _ :: _) _ _; refine wpList_load_arr 8 rfl rfl rfl hH (by kernel_rfl) hh8.out ?_)
  replace hX : Arr (((w.alloc (.cells (cells32 h).toArray 57)).alloc (.cells z32.toArray 22)).alloc (.cells z32.toArray 22)) (w.heap.size + 1 + 1) (vals (aR h 0)) := by rw [aR_zero, ← z32_vals]; exact hX
  go_loopw [8] (fun t wr => ∃ i : Nat, i ≤ 8 ∧ t = .int .i64 i ∧ Below w.heap.size w wr ∧ Arr wr (w.heap.size + 1) z32 ∧ Arr wr (w.heap.size + 1 + 1) (vals (aR h i))) (fun t _ => 8 - (intOf t).toNat)
  case atStart => exact ⟨0, by omega, rfl, hw1, hR, hX⟩
  case round =>
    clear hw1 hR hX hH
    obtain ⟨i, hi, rfl, hw, hR, hX⟩ := hrel
    by_cases hlt : i < 8
    · obtain ⟨n, hn⟩ : ∃ n, h.getD i 0 = n := ⟨_, rfl⟩
      have hix : ∀ V, (Instr.index 57 (.agg (cells32 h).toArray) (.int .i64 (i : Int))).run Tryd.prog V = .ok (.int .u32 (n.toNat : Int)) V := fun V =>
        run_index_agg (P := Tryd.prog) V 57 56 8 .i64 .u32 Tryd.underlying57 Tryd.underlying56 (by kernel_rfl) (cells32 h) i hlt _ (by rw [cells32_get (by rw [hh.out]; exact hlt), ← hn]; simp [hh.out, hlt])
      replace hX : Arr wr (w.heap.size + 1 + 1) (vals (aS h i 0)) := by rw [aS_start h i hlt]; exact hX
      replace hn : Unit → h.getD i 0 = n := fun _ => hn
      go_wp2
      go_loopw [12] (fun t wr => ∃ j : Nat, j ≤ 4 ∧ t = .int .i64 j ∧ Below w.heap.size w wr ∧ Arr wr (w.heap.size + 1) z32 ∧ Arr wr (w.heap.size + 1 + 1) (vals (aS h i j))) (fun t _ => 4 - (intOf t).toNat)
      case atStart => exact ⟨0, by omega, rfl, hw, hR, hX⟩
      case round =>
        clear hw hR hX
        obtain ⟨j, hj, rfl, hw, hR, hX⟩ := hrel
        by_cases hjl : j < 4
        · obtain ⟨q, hq⟩ : ∃ q, 4 * i + 3 - j = q := ⟨_, rfl⟩
          have e1 : 4 * (i : Int) + 4 - 1 - (j : Int) = (q : Int) := by omega
          have q32 : (q : Int) < 32 := by omega
          have hal := aS_len h hh.out i j hlt hj
          have hc := hX.cell (i := q) (vals_get (by rw [hal]; omega))
          have hf := hX.frozen q
          have E := byte_int n.toNat j (n.toNat : Int) rfl
          obtain ⟨c, hcc⟩ : ∃ c, UInt8.ofNat (n.toNat / 256 ^ j) = c := ⟨_, rfl⟩
          rw [hcc] at E
          have hset := hX.set q (.int .u8 (c.toNat : Int))
          have es : (vals (aS h i j)).set q (.int .u8 (c.toNat : Int)) = vals (aS h i (j + 1)) := by
            rw [← aS_set h hh.out i j hlt hjl c (by rw [hn (), hcc]), hq, vals, vals, List.map_set]
          rw [es] at hset
          replace hset := Lib.hid hset
          generalize (aS h i j)[q]'(by rw [hal]; omega) = old at hc
          clear hal hcc es
          replace hq : Unit → 4 * i + 3 - j = q := fun _ => hq
          go_wp2
          go_roundw
          case rel => exact ⟨j + 1, by omega, by go_num, hw.setCell (by show _ ≤ w.heap.size + 1 + 1; omega) _, hR.other (by show _ ≠ w.heap.size + 1 + 1; omega) _, hset.out⟩
          case measure => simp [intOf]; omega
        · obtain rfl : j = 4 := by omega
          simp only [show ((4 : Nat) : Int) = 4 from rfl]
          rw [aS_end h hh.out i hlt] at hX
          go_wp2
          go_roundw
          case rel => exact ⟨i + 1, by omega, by go_num, hw, hR, hX⟩
          case measure => simp [intOf]; omega
    · obtain rfl : i = 8 := by omega
      simp only [show ((8 : Nat) : Int) = 8 from rfl]
      rw [aR_all h hh.out] at hX
      have hal : (vals (allB h)).length = 32 := by rw [vals_len, allB_len, hh.out]
      replace hal := Lib.hid hal
      go_wp2_with (first
        | (guard_target =~ wpList _ _ _ (Oper.mk _ (Op.load _ _) _ _ _ _ :: _) _ _; refine wpList_load_arr 32 rfl rfl rfl hX (by kernel_rfl) hal.out ?_)
        | (guard_target =~ wpList _ _ _ (Oper.mk _ (Op.store _ _ _) _ _ _ _ :: _) _ _; refine wpList_store_arr (cs' := vals (allB h)) 32 rfl rfl rfl rfl hR (by kernel_rfl) rfl hal.out (vals_one _) ?_))
      intro V hR2 ho2 hb2 hs2
      have hw2 := hw.trans (hb2.mono (Nat.le_add_right _ _))
      clear hX hR ho2 hb2 hs2
      go_wp2
      exact ret_arr rfl (w.heap.size + 1) _ _ rfl hR2 Tryd.underlying22 rfl (by rw [hal.out]; kernel_rfl) rfl ⟨rfl, hw2⟩

/-- a load of an array out of the middle of a block, in a region that draws -/
theorem wpStill_load_mid {P : Program} {ops : Array Oper} {rest : List Oper} {o : Oper} {a : Act} {w : World} {Q : Act → Prop} {ty : TypeId} {x : Operand} {b off : Nat} {cs : List Value} (n : Nat) (hgd : o.guard = none) (ho : o.op = .load ty x)
    (hx : a.eval x = .pointer (some ⟨b, off, none⟩)) (hA : w.rangeAt b off cs) (hr : rowB P ty n = true) (hn : cs.length = n) (h : wpStill P ops w Q rest (a.put o.dst (.agg cs.toArray))) : wpStill P ops w Q (o :: rest) a := by
  obtain ⟨d, h1, h2, h3⟩ := rowB_spec hr
  refine wpStill_step fun K hK => ?_
  have hw : Region.wanted o (yielded ops a.tmps) = true := by simp [Region.wanted, hgd]
  rw [if_pos hw]
  unfold Oper.still execOp
  simp only [ho, hx, Instr.loadAt, Instr.sureAddr, Sem.run_bind, Sem.run_pure, Result.andThen_ok, run_loadVar_mid w b off ty cs d hA h1 h2 (by rw [h3, hn])]
  exact ⟨rfl, hK _ h⟩
theorem held_part {w : World} {b c : Nat} {l : List UInt8} (h : Held w b c l) (o n : Nat) : w.rangeAt b o (vals ((l.drop o).take n)) := fun j v hv => by
  have hj := (List.getElem?_eq_some_iff.1 hv).1
  rw [vals_len, List.length_take, List.length_drop] at hj
  rw [vals_get (by simp; omega)] at hv
  have := h.cell (i := o + j) (by omega)
  rw [this]
  simpa using hv
theorem fit_block (a : Addr) (n c : Nat) (hn : 64 ≤ n) (W : World) : (Instr.arrayAt 47 (.slice (some a) n c)).run Tryd.prog W = .ok (.pointer (some a)) W := by
  have h : ¬ n < 64 := by omega
  simp [Instr.arrayAt, run_underlying Tryd.underlying47, h]
/-- 'p[64:]' -/
theorem cut_rest (b o n : Nat) (hn : 64 ≤ n) : ∃ A : Addr, (n ≠ 64 → A = ⟨b, o + 64, none⟩) ∧ ∀ W, (Instr.slice 23 (.slice (some ⟨b, o, none⟩) n n) (some (.int .i64 64)) none none).run Tryd.prog W = .ok (.slice (some A) (n - 64) (n - 64)) W := by
  have he : (Tryd.prog).elem 23 = 5 := by simp [Program.elem, Tryd.underlying23]
  have ht : (Tryd.prog).underlying 23 = some (.slice ((Tryd.prog).elem 23)) := by rw [he]; exact Tryd.underlying23
  by_cases h1 : n = 64
  · subst h1
    refine ⟨⟨b, o, none⟩, fun h => absurd rfl h, fun W => ?_⟩
    rw [run_slice_l W _ _ _ _ ht .i64 64 (by decide) (by decide), he, size_u8]
    simp [Result.andThen, sliced]
  · refine ⟨⟨b, o + 64, none⟩, fun _ => rfl, fun W => ?_⟩
    rw [run_slice_l W _ _ _ _ ht .i64 64 (by decide) (by omega), he, size_u8]
    simp [Result.andThen, sliced, Addr.add, h1]
set_option maxRecDepth 100000 in
set_option maxHeartbeats 1000000 in
theorem sum_ok (A : Option Addr) (cap : Nat) (l : List UInt8) (w : World) (hl : l.length ≤ 1048576) (hr : Seen w A l) (hK : Table w) :
    Calls Tryd.prog 24 #[.slice A l.length cap] w fun e w' => e = .returned (.agg (vals (sumB l)).toArray) ∧ Below w.heap.size w w' := by
  obtain ⟨P, hP⟩ : ∃ P, padN l.length = P := ⟨_, rfl⟩
  obtain ⟨N, hN⟩ : ∃ N, P / 64 = N := ⟨_, rfl⟩
  have hPN : P = 64 * N := by have := padN_mod l.length; omega
  have hP2 : P ≤ 1048576 + 72 := by have := padN_le l.length; omega
  have hpl : (padL l).length = P := by rw [padL_len, hP]
  replace hP : Unit → padN l.length = P := fun _ => hP
  replace hN : Unit → P / 64 = N := fun _ => hN
  replace hPN : Unit → P = 64 * N := fun _ => hPN
  replace hpl := Lib.hid hpl
  have hw1 : Below w.heap.size w (w.alloc (.cells z32.toArray 22)) := by go_grown
  have hR := Arr.new w z32 22
  go_enter Tryd.func24, Tryd.ntmps24
  go_wp2_with fail
  (with_reducible refine (start_ok _).mono ?_)
  rintro e w1 ⟨rfl, hs1⟩
  have hz1 : w.heap.size < w1.heap.size := by have := hs1.size; simp at this; omega
  have hR1 := hR.since hs1
  have hw1' := hw1.trans (hs1.mono hw1.size)
  clear hR hw1 hs1
  have hX0 := Arr.new w1 z8 57
  go_wp2_with (guard_target =~ wpList _ _ _ (Oper.mk _ (Op.store _ _ _) _ _ _ _ :: _) _ _; refine wpList_store_arr (cs' := cells32 start) 8 rfl rfl rfl rfl hX0 (by kernel_rfl) rfl rfl (cells32_one _) ?_)
  intro w2 hX2 ho2 hb2 hs2
  have hw2 := (hw1'.alloc hw1'.size (.cells z8.toArray 57)).trans (hb2.mono hw1'.size)
  have hR2 := (hR1.alloc (.cells z8.toArray 57)).of_block (ho2 _ (by omega))
  clear hX0 ho2 hb2 hs2 hw1' hR1
  generalize w1.heap.size = g at hX2 hz1 ⊢
  go_wp2_with fail
  (with_reducible refine (pad_ok A cap l P _ hl (hr.since hw2) (hP ())).mono ?_)
  rintro e w3 ⟨bp, rfl, hbp, hp, hw3⟩
  have hX3 := hX2.since hw3
  have hR3 := hR2.since hw3
  have hw3' := hw2.trans (hw3.mono hw2.size)
  have hgp : bp ≠ g := by have := hX2.lt; omega
  clear hX2 hR2 hw2 hw3 hr
  go_wp2
  go_loopw [4] (fun t wr => ∃ (i m : Nat) (B : Addr), i ≤ N ∧ m = 64 * (N - i) ∧ t = .slice (some B) m m ∧ (i < N → B = ⟨bp, 64 * i, none⟩) ∧ Below w.heap.size w wr ∧ Arr wr w.heap.size z32 ∧ Arr wr g (cells32 (hs (padL l) i)) ∧ Held wr bp P (padL l)) (fun t _ => match t with | .slice _ n _ => n | _ => 0)
  case atStart => exact ⟨0, P, ⟨bp, 0, none⟩, by omega, by have := hPN (); omega, rfl, fun _ => rfl, hw3', hR3, hX3, hp⟩
  case round =>
    clear hw3' hR3 hX3 hp hbp
    obtain ⟨i, m, B, hi, hm, rfl, hB, hw, hR, hX, hp⟩ := hrel
    by_cases hlt : i < N
    · obtain rfl := hB hlt
      have t1 : decide ((0 : Int) < (m : Int)) = true := decide_eq_true (by omega)
      have hm64 : 64 ≤ m := by omega
      have hfit := fit_block ⟨bp, 64 * i, none⟩ m m hm64
      obtain ⟨B2, hB2, hcut⟩ := cut_rest bp (64 * i) m hm64
      have h8 : Hid ((hs (padL l) i).length = 8) := Lib.hid (hs_len _ _)
      have hbl : Hid ((((padL l).drop (64 * i)).take 64).length = 64) := Lib.hid (by rw [List.length_take, List.length_drop, hpl.out]; have := hPN (); omega)
      have hT := hK.since hw
      replace hm : Unit → m = 64 * (N - i) := fun _ => hm
      clear hB
      go_wp2_with fail
      refine wp_region_still_tail 4 (by kernel_rfl) (by kernel_rfl) ?_
      simp only [List.take_succ_cons, List.take_zero, List.drop_succ_cons, List.drop_zero]
      refine wpStill_load_arr 8 rfl rfl rfl hX.drew (by kernel_rfl) (by rw [cells32_len, h8.out]) ?_
      still_step
      still_step
      refine wpStill_load_mid 64 rfl rfl rfl (held_part (hp.drewN 1) (64 * i) 64) (by kernel_rfl) (by rw [vals_len, hbl.out]) ?_
      refine wpStill_nil ?_
      change wpList _ _ _ _ _ wr.drew
      have hX' := hX.drew
      have hR' := hR.drew
      have hw' := hw.drew
      have hp' : Held wr.drew bp P (padL l) := hp
      have hT' : Table wr.drew := hT
      clear hX hR hw hp hT hfit
      generalize wr.drew = V at hX' hR' hw' hp' hT' ⊢
      go_wp2_with fail
      (with_reducible refine (block_ok (hs (padL l) i) _ h8.out hbl.out _ hT').mono ?_)
      rintro e V2 ⟨rfl, hV2⟩
      have hX2 := hX'.since hV2
      have hR2 := hR'.since hV2
      have hp2 := hp'.since hV2
      have hw2 := hw'.trans (hV2.mono hw'.size)
      have hlt2 := hp'.lt
      clear hX' hR' hw' hp' hT' hV2
      have hne : Hid (bp ≠ g) := Lib.hid hgp
      go_wp2_with (guard_target =~ wpList _ _ _ (Oper.mk _ (Op.store _ _ _) _ _ _ _ :: _) _ _; refine wpList_store_arr (cs' := cells32 (blk (hs (padL l) i) (((padL l).drop (64 * i)).take 64))) 8 rfl rfl rfl rfl hX2 (by kernel_rfl) (by rw [cells32_len, h8.out]) (by rw [cells32_len, blk_len]) (cells32_one _) ?_)
      intro V3 hX3 ho3 hb3 hs3
      have hR3 := hR2.of_block (ho3 _ (by omega))
      have hp3 := hp2.of_block (ho3 _ hne.out)
      have hw3 := hw2.trans (hb3.mono (by omega))
      clear hX2 hR2 hp2 hw2 ho3 hb3 hs3
      go_wp2
      go_roundw
      case rel => exact ⟨i + 1, m - 64, B2, by omega, by have := hm (); omega, rfl, fun h => hB2 (by have := hm (); omega), hw3, hR3, hX3, hp3⟩
      case measure => simp only; omega
    · obtain rfl : i = N := by omega
      have t0 : m ≤ 0 := by omega
      replace hm : Unit → m = 64 * (i - i) := fun _ => hm
      clear hB
      have h8 : Hid ((hs (padL l) i).length = 8) := Lib.hid (hs_len _ _)
      have hend : Unit → allB (hs (padL l) i) = sumB l := fun _ => by rw [sumB, hP (), hN ()]
      have hsl := Lib.hid (sumB_len l)
      go_wp2_with (guard_target =~ wpList _ _ _ (Oper.mk _ (Op.load _ _) _ _ _ _ :: _) _ _; refine wpList_load_arr 8 rfl rfl rfl hX (by kernel_rfl) (by rw [cells32_len, h8.out]) ?_)
      (with_reducible refine (allBytes_ok _ h8.out _).mono ?_)
      rintro e V ⟨rfl, hV⟩
      rw [hend ()]
      have hR2 := hR.since hV
      have hw2 := hw.trans (hV.mono hw.size)
      clear hX hp hV hR hw
      go_wp2_with (guard_target =~ wpList _ _ _ (Oper.mk _ (Op.store _ _ _) _ _ _ _ :: _) _ _; refine wpList_store_arr (cs' := vals (sumB l)) 32 rfl rfl rfl rfl hR2 (by kernel_rfl) rfl (by rw [vals_len, hsl.out]) (vals_one _) ?_)
      intro V2 hR3 ho3 hb3 hs3
      have hw3 := hw2.trans hb3
      clear hR2 hw2 ho3 hb3 hs3
      go_wp2
      exact ret_arr rfl w.heap.size _ _ rfl hR3 Tryd.underlying22 rfl (by rw [vals_len, hsl.out]; kernel_rfl) rfl ⟨rfl, hw3⟩
end Go.Proofs.YtmgfgbdfmdblhaaDoor.sha
