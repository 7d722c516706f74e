/-
  THE CONTRACT OF THE REFERENCE's Sum.
-/
import Derived.Test.YtcaeaejbccgpoaaDoorShaSum
import Derived.Test.YtcaeaejbccgpoaaDoorShaRBlock
namespace Go.Proofs.YtcaeaejbccgpoaaDoor.sha
open Go.RowKit Go.Proofs.YtcaeaejbccgpoaaDoor.octets
set_option linter.unusedVariables false
/-- 'p[at:at+64]' -/
theorem cut_win (b n k c : Nat) (h : k + 64 ≤ c) (W : World) : (Instr.slice 22 (.slice (some ⟨b, 0, none⟩) n c) (some (.int .i64 (k : Int))) (some (.int .i64 ((k + 64 : Nat) : Int))) none).run Tryd.prog W = .ok (.slice (some ⟨b, k, none⟩) 64 (c - k)) W := by
  have he : (Tryd.prog).elem 22 = 5 := by simp [Program.elem, Tryd.underlying22]
  have ht : (Tryd.prog).underlying 22 = some (.slice ((Tryd.prog).elem 22)) := by rw [he]; exact Tryd.underlying22
  have h1 : ¬ c = k := by omega
  rw [run_slice_lh W _ _ _ _ ht .i64 .i64 (k : Int) ((k + 64 : Nat) : Int) (by omega) (by omega) (by omega), he, size_u8]
  have e1 : ((k + 64 : Nat) : Int).toNat = k + 64 := by omega
  have e2 : (k : Int).toNat = k := by omega
  rw [e1, e2]
  have e3 : k + 64 - k = 64 := by omega
  simp [Result.andThen, sliced, Addr.add, h1, e3]
  intro h; omega
/-- 'x[:]' -/
theorem cut_all (g : Nat) (W : World) : (Instr.sliceAt 33 (.pointer (some ⟨g, 0, none⟩)) none none none).run Tryd.prog W = .ok (.slice (some ⟨g, 0, none⟩) 64 64) W := by
  have hl : Tryd.prog.arrayLen 33 = 64 := by simp [Program.arrayLen, Tryd.underlying33]
  have he : Tryd.prog.elem 33 = 5 := by simp [Program.elem, Tryd.underlying33]
  have ht : Tryd.prog.underlying 33 = some (.array (Tryd.prog.arrayLen 33) (Tryd.prog.elem 33)) := by rw [hl, he]; exact Tryd.underlying33
  rw [run_sliceAt_array_all W _ _ ht, he, hl, size_u8]
  simp [Result.andThen, slicedAt, Addr.add]
def zb64 : List Value := List.replicate 64 (.int .u8 0)
/-- 'copy(x[:], p[k:k+64])' over a whole array -/
theorem wpList_copy_block (w : World) {ops : Array Oper} {rest : List Oper} {o : Oper} {a : Act} {Q : Exit → Act → World → Prop} (hgd : o.guard = none) (d s : Operand)
    (ho : o.op = .call { callee := .builtin .copy, args := #[d, s], argTypes := #[22, 22] })
    (g b k c cc : Nat) (hd : a.eval d = .slice (some ⟨g, 0, none⟩) 64 64) (hs : a.eval s = .slice (some ⟨b, k, none⟩) 64 cc) (zs : List Value) (hz : zs.length = 64) (hX : Arr w g zs) (l : List UInt8) (hp : Held w b c l) (hk : k + 64 ≤ l.length)
    (h : ∀ w', Arr w' g (vals ((l.drop k).take 64)) → Below g w w' → wpList Tryd.prog ops Q rest (a.put o.dst (goInt 64)) w') : wpList Tryd.prog ops Q (o :: rest) a w := by
  obtain ⟨t, hg⟩ := hX
  have hlen : (vals ((l.drop k).take 64)).length = 64 := by rw [vals_len, List.length_take, List.length_drop]; omega
  refine wpList_copy_splice hgd d s _ _ ho 5 Tryd.underlying22 (by kernel_rfl) _ _ _ _ _ _ hd hs g 0 zs t hg (vals ((l.drop k).take 64)) (by rw [hlen]; rfl) (fun _ => ⟨rfl, _, rfl, fun j v hv => ?_⟩) (by omega) (vals_one _) g w (Below.refl _ _) (Nat.le_refl _) ?_
  · rw [Addr.add_mid]; exact held_part hp k 64 j v hv
  · intro w' hg' hb'
    rw [hlen]
    refine h w' ⟨t, ?_⟩ hb'
    have e : splice zs 0 (vals ((l.drop k).take 64)) = vals ((l.drop k).take 64) := by
      generalize vals ((l.drop k).take 64) = X at hlen
      simp [splice, hlen, hz]
    rw [← e]
    exact hg'.out
/-- a row written from the front on -/
def fr (f : Nat → UInt8) (i : Nat) : List UInt8 := (List.range 32).map fun j => if j < i then f j else 0
theorem fr_len (f : Nat → UInt8) (i : Nat) : (fr f i).length = 32 := by simp [fr]
theorem fr_zero (f : Nat → UInt8) : fr f 0 = List.replicate 32 0 := by
  apply List.ext_getElem (by simp [fr])
  intro j h1 h2
  simp only [fr, List.getElem_map, List.getElem_range, List.getElem_replicate]
  rw [if_neg (by omega)]
theorem fr_set (f : Nat → UInt8) (i : Nat) (h : i < 32) : (fr f i).set i (f i) = fr f (i + 1) := by
  apply List.ext_getElem (by simp [fr])
  intro j h1 h2
  simp only [fr, List.getElem_set, List.getElem_map, List.getElem_range]
  by_cases e : i = j
  · subst e; rw [if_pos rfl, if_pos (by omega)]
  · rw [if_neg e]
    by_cases e2 : j < i
    · rw [if_pos e2, if_pos (by omega)]
    · rw [if_neg e2, if_neg (by omega)]
theorem fr_all (l : List UInt8) (hl : l.length = 32) : fr (fun j => l.getD j 0) 32 = l := by
  apply List.ext_getElem (by simp [fr, hl])
  intro j h1 h2
  have : j < 32 := by omega
  simp [fr, this, h2]
theorem byte_and32 (m : UInt32) (i : Nat) : bits BinOp.and IntKind.u32 ((m.toNat : Int) / 2 ^ (8 * i)) 255 = ((UInt8.ofNat (m.toNat / 256 ^ i)).toNat : Int) := by
  have e : (256 : Nat) ^ i = 2 ^ (8 * i) := by rw [Nat.pow_mul]
  have e2 : ((2 : Int) ^ (8 * i)) = ((2 ^ (8 * i) : Nat) : Int) := by rw [Int.natCast_pow]; rfl
  have hle : m.toNat / 2 ^ (8 * i) ≤ m.toNat := Nat.div_le_self _ _
  have hm := u_lt m
  rw [UInt8.toNat_ofNat', e, e2, ← Int.natCast_ediv]
  generalize m.toNat / 2 ^ (8 * i) = y at hle
  have h := u32_and_nat y 255 (by omega) (by decide)
  have e3 : y &&& 255 = y % 2 ^ 8 := Nat.and_two_pow_sub_one_eq_mod y 8
  rw [e3] at h
  exact h
set_option maxRecDepth 100000 in
set_option maxHeartbeats 1000000 in
theorem rsum_ok (A : Option Addr) (cap : Nat) (l : List UInt8) (w : World) (hl : l.length ≤ 1048576) (hr : Seen w A l) :
    Calls Tryd.prog 18 #[.slice A l.length cap] w fun e w' => e = .returned (.agg (vals (sumB l)).toArray) ∧ Below w.heap.size w w' := by
  obtain ⟨P, hP⟩ : ∃ P, padN l.length = P := ⟨_, rfl⟩
  obtain ⟨N, hN⟩ : ∃ N, P / 64 = N := ⟨_, rfl⟩
  have hPN : P = 64 * N := by have := padN_mod l.length; omega
  have hP2 : P ≤ 1048576 + 72 := by have := padN_le l.length; omega
  have hP3 : 0 < P := by have := padN_ge l.length; omega
  have hpl : (padL l).length = P := by rw [padL_len, hP]
  replace hP : Unit → padN l.length = P := fun _ => hP
  replace hN : Unit → P / 64 = N := fun _ => hN
  replace hPN : Unit → P = 64 * N := fun _ => hPN
  replace hpl := Lib.hid hpl
  have hw1 : Below w.heap.size w (w.alloc (.cells z32.toArray 25)) := by go_grown
  have hR := Arr.new w z32 25
  have hr1 := hr.alloc (.cells z32.toArray 25)
  go_enter Tryd.func18, Tryd.ntmps18
  go_wp2_with fail
  refine (rpad_ok A cap l P _ hl hr1 (hP ())).mono ?_
  rintro e w1 ⟨v, rfl, hown, hs1⟩
  obtain ⟨bp, c, rfl, hbp, hp⟩ := hown.held (by rw [hpl.out]; exact hP3)
  have hPc : P ≤ c := by have := hp.1; rw [hpl.out] at this; exact this
  have hR1 := hR.since hs1
  have hw1' := hw1.trans (hs1.mono hw1.size)
  rw [hpl.out]
  have hbp' : w.heap.size < bp := by simp at hbp; omega
  clear hR hw1 hs1 hown hbp hr hr1
  go_wp2_with fail
  (with_reducible refine (rstart_ok _).mono ?_)
  rintro e w2 ⟨rfl, hs2⟩
  have hR2 := hR1.since hs2
  have hp2 := hp.since hs2
  have hw2 := hw1'.trans (hs2.mono hw1'.size)
  have hz2 := hw2.size
  have hpl2 := hp2.lt
  clear hR1 hp hw1' hs2
  have hX0 := Arr.new w2 z8 38
  go_wp2_with (guard_target =~ wpList _ _ _ (Oper.mk _ (Op.store _ _ _) _ _ _ _ :: _) _ _; refine wpList_store_arr (cs' := cells32 start) 8 rfl rfl rfl rfl hX0 (by kernel_rfl) rfl rfl (cells32_one _) ?_)
  intro w3 hX3 ho3 hb3 hs3
  have hR3 := (hR2.alloc (.cells z8.toArray 38)).of_block (ho3 _ (by omega))
  have hp3 := (hp2.alloc (.cells z8.toArray 38)).of_block (ho3 _ (by omega))
  have hw3 := (hw2.alloc hz2 (.cells z8.toArray 38)).trans (hb3.mono hz2)
  clear hX0 ho3 hb3 hs3 hw2 hR2 hp2
  generalize w2.heap.size = g at hX3 hz2 hpl2 ⊢
  go_wp2
  go_loopw [5] (fun t wr => ∃ (i k : Nat), i ≤ N ∧ k = 64 * i ∧ t = .int .i64 k ∧ Below w.heap.size w wr ∧ Arr wr w.heap.size z32 ∧ Arr wr g (cells32 (hs (padL l) i)) ∧ Held wr bp c (padL l)) (fun t _ => P - (intOf t).toNat)
  case atStart => exact ⟨0, 0, by omega, rfl, rfl, hw3, hR3, hX3, hp3⟩
  case round =>
    clear hw3 hR3 hX3 hp3
    obtain ⟨i, k, hi, hk, rfl, hw, hR, hX, hp⟩ := hrel
    by_cases hlt : i < N
    · have hkP : k + 64 ≤ P := by have := hPN (); omega
      have hcut := cut_win bp P k c (by omega)
      have hall := fun W => cut_all wr.heap.size W
      obtain ⟨k2, hk2⟩ : ∃ k2, k + 64 = k2 := ⟨_, rfl⟩
      have E1 : IntKind.i64.wrap ((k : Int) + 64) = (k2 : Int) := by rw [IntKind.wrap_i64]; omega
      have hcut' : ∀ W, (Instr.slice 22 (.slice (some ⟨bp, 0, none⟩) P c) (some (.int .i64 (k : Int))) (some (.int .i64 (k2 : Int))) none).run Tryd.prog W = .ok (.slice (some ⟨bp, k, none⟩) 64 (c - k)) W := by rw [← hk2]; exact hcut
      have h8 : Hid ((hs (padL l) i).length = 8) := Lib.hid (hs_len _ _)
      have hbl : Hid ((((padL l).drop (64 * i)).take 64).length = 64) := Lib.hid (by rw [List.length_take, List.length_drop, hpl.out]; omega)
      have hB0 := Arr.new wr zb64 33
      have hz := hw.size
      have hgl := hX.lt
      have hpl3 := hp.lt
      replace hk : Unit → k = 64 * i := fun _ => hk
      replace hk2 : Unit → k + 64 = k2 := fun _ => hk2
      clear hcut
      go_wp2_with (guard_target =~ wpList _ _ _ (Oper.mk _ (Op.store _ _ _) _ _ _ _ :: _) _ _; refine wpList_store_arr (cs' := zb64) 64 rfl rfl rfl rfl hB0 (by kernel_rfl) rfl rfl (by rw [show zb64 = vals (List.replicate 64 0) by simp [zb64, vals]]; exact vals_one _) ?_)
      intro V hB ho hb hs
      have hR1 := (hR.alloc (.cells zb64.toArray 33)).of_block (ho _ (by omega))
      have hX1 := (hX.alloc (.cells zb64.toArray 33)).of_block (ho _ (by omega))
      have hp1 := (hp.alloc (.cells zb64.toArray 33)).of_block (ho _ (by omega))
      have hw1 := (hw.alloc hz (.cells zb64.toArray 33)).trans (hb.mono hz)
      clear hB0 hR hX hp hw ho hb hs
      generalize wr.heap.size = x at hB hz hgl hpl3 hall ⊢
      go_wp2_with fail
      go_still_tail 6, (by kernel_rfl)
      change wpList _ _ _ _ _ V.drew
      have hR' := hR1.drew
      have hX' := hX1.drew
      have hB' := hB.drew
      have hp' : Held V.drew bp c (padL l) := hp1
      have hw' := hw1.drew
      clear hR1 hX1 hB hp1 hw1 hall hcut' E1
      generalize V.drew = W at hR' hX' hB' hp' hw' ⊢
      have hkl : k + 64 ≤ (padL l).length := by rw [hpl.out]; exact hkP
      refine wpList_copy_block _ rfl (.tmp 19) (.tmp 24) rfl x bp k c (c - k) rfl rfl zb64 rfl hB' (padL l) hp' hkl ?_
      intro W2 hB2 hb2
      rw [hk ()] at hB2
      have hR2 := hR'.below hb2 (by omega)
      have hX2 := hX'.below hb2 (by omega)
      have hp2 := hp'.below hb2 (by omega)
      have hw2 := hw'.trans (hb2.mono hz)
      clear hR' hX' hB' hp' hw' hb2 hkl
      go_wp2_with (first
        | (guard_target =~ wpList _ _ _ (Oper.mk _ (Op.load 38 _) _ _ _ _ :: _) _ _; refine wpList_load_arr 8 rfl rfl rfl hX2 (by kernel_rfl) (by rw [cells32_len, h8.out]) ?_)
        | (guard_target =~ wpList _ _ _ (Oper.mk _ (Op.load 33 _) _ _ _ _ :: _) _ _; refine wpList_load_arr 64 rfl rfl rfl hB2 (by kernel_rfl) (by rw [vals_len, hbl.out]) ?_))
      (with_reducible refine (rblock_ok (hs (padL l) i) _ h8.out hbl.out _).mono ?_)
      rintro e V2 ⟨rfl, hV2⟩
      have hX3 := hX2.since hV2
      have hR3 := hR2.since hV2
      have hp3 := hp2.since hV2
      have hw3 := hw2.trans (hV2.mono hw2.size)
      clear hX2 hR2 hp2 hw2 hV2 hB2
      go_wp2_with (guard_target =~ wpList _ _ _ (Oper.mk _ (Op.store _ _ _) _ _ _ _ :: _) _ _; refine wpList_store_arr (cs' := cells32 (blk (hs (padL l) i) (((padL l).drop (64 * i)).take 64))) 8 rfl rfl rfl rfl hX3 (by kernel_rfl) (by rw [cells32_len, h8.out]) (by rw [cells32_len, blk_len]) (cells32_one _) ?_)
      intro V3 hX4 ho3 hb3 hs3
      have hR4 := hR3.of_block (ho3 _ (by omega))
      have hp4 := hp3.of_block (ho3 _ (by omega))
      have hw4 := hw3.trans (hb3.mono (by omega))
      clear hX3 hR3 hp3 hw3 ho3 hb3 hs3
      go_wp2
      go_roundw
      case rel => exact ⟨i + 1, k + 64, by omega, by have := hk (); omega, by go_num, hw4, hR4, hX4, hp4⟩
      case measure => simp [intOf]; omega
    · obtain rfl : i = N := by omega
      have hkP : P ≤ k := by have := hPN (); omega
      obtain ⟨h, hh⟩ : ∃ h, hs (padL l) i = h := ⟨_, rfl⟩
      have h8 : Hid (h.length = 8) := Lib.hid (by rw [← hh, hs_len])
      have hend : Unit → allB h = sumB l := fun _ => by rw [← hh, sumB, hP (), hN ()]
      rw [hh] at hX
      replace hk : Unit → k = 64 * i := fun _ => hk
      have hz := hw.size
      have hgl := hX.lt
      clear hh hp
      have hF0 := Arr.new wr z32 25
      go_wp2_with (guard_target =~ wpList _ _ _ (Oper.mk _ (Op.store _ _ _) _ _ _ _ :: _) _ _; refine wpList_store_arr (cs' := z32) 32 rfl rfl rfl rfl hF0 (by kernel_rfl) rfl rfl (by rw [z32_vals]; exact vals_one _) ?_)
      intro V hF ho hb hs0
      have hR1 := (hR.alloc (.cells z32.toArray 25)).of_block (ho _ (by omega))
      have hX1 := (hX.alloc (.cells z32.toArray 25)).of_block (ho _ (by omega))
      have hw1 := (hw.alloc hz (.cells z32.toArray 25)).trans (hb.mono hz)
      obtain ⟨f, hf⟩ : ∃ f : Nat → UInt8, f = fun j => (allB h).getD j 0 := ⟨_, rfl⟩
      have hF1 : Arr V wr.heap.size (vals (fr f 0)) := by rw [fr_zero, ← z32_vals]; exact hF
      have hfend : Unit → fr f 32 = sumB l := fun _ => by rw [hf, fr_all _ (by rw [allB_len, h8.out]), hend ()]
      replace hf : Unit → f = fun j => (allB h).getD j 0 := fun _ => hf
      have hz1 : w.heap.size < wr.heap.size := by have := hR.lt; omega
      clear hF0 hR hX hw ho hb hs0 hF hz
      generalize wr.heap.size = x at hF1 hgl hz1 ⊢
      go_wp2
      go_loopw [8] (fun t wr => ∃ i : Nat, i ≤ 32 ∧ t = .int .i64 i ∧ Below w.heap.size w wr ∧ Arr wr w.heap.size z32 ∧ Arr wr g (cells32 h) ∧ Arr wr x (vals (fr f i))) (fun t _ => 32 - (intOf t).toNat)
      case atStart => exact ⟨0, by omega, rfl, hw1, hR1, hX1, hF1⟩
      case round =>
        clear hw1 hR1 hX1 hF1
        obtain ⟨j, hj, rfl, hw, hR, hX, hF⟩ := hrel
        by_cases hjl : j < 32
        · obtain ⟨q, hq⟩ : ∃ q, j / 4 = q := ⟨_, rfl⟩
          obtain ⟨s, hs⟩ : ∃ s, 3 - j % 4 = s := ⟨_, rfl⟩
          have e1 : (j : Int) / 4 = (q : Int) := by omega
          have e2 : 3 - (j : Int) % 4 = (s : Int) := by omega
          have hq8 : q < 8 := by omega
          have hs4 : s < 4 := by omega
          obtain ⟨n, hn⟩ : ∃ n, h.getD q 0 = n := ⟨_, rfl⟩
          have cq : wr.cell? ⟨g, q, none⟩ = some (.int .u32 (n.toNat : Int)) := hX.cell (by rw [cells32_get (by rw [h8.out]; exact hq8), ← hn]; simp [h8.out, hq8])
          have E := byte_and32 n s
          obtain ⟨c, hcc⟩ : ∃ c, UInt8.ofNat (n.toNat / 256 ^ s) = c := ⟨_, rfl⟩
          rw [hcc] at E
          have hcl := c.toNat_lt
          have hfj : f j = c := by
            have hg := allB_get h q (j % 4) (by rw [h8.out]; exact hq8) (Nat.mod_lt _ (by decide))
            rw [show 4 * q + j % 4 = j by omega, octs_get 4 _ _ (Nat.mod_lt _ (by decide)), hn, show 4 - 1 - j % 4 = s by omega, hcc] at hg
            rw [hf ()]
            simp [hg]
          have hfl := fr_len f j
          have hc := hF.cell (i := j) (vals_get (by rw [hfl]; exact hjl))
          have hfz := hF.frozen j
          have hset := hF.set j (.int .u8 (c.toNat : Int))
          have es : (vals (fr f j)).set j (.int .u8 (c.toNat : Int)) = vals (fr f (j + 1)) := by
            rw [← fr_set f j hjl, hfj, vals, vals, List.map_set]
          rw [es] at hset
          generalize (fr f j)[j]'(by rw [hfl]; exact hjl) = old at hc
          replace hset := Lib.hid hset
          have j32 : (j : Int) < 32 := by omega
          clear hq hs hn hcc hfj hfl es
          go_wp2
          go_roundw
          case rel => exact ⟨j + 1, by omega, by go_num, hw.setCell (by show _ ≤ x; omega) _, hR.other (by show _ ≠ x; omega) _, hX.other (by show _ ≠ x; omega) _, hset.out⟩
          case measure => simp [intOf]; omega
        · obtain rfl : j = 32 := by omega
          simp only [show ((32 : Nat) : Int) = 32 from rfl]
          rw [hfend ()] at hF
          have hsl := Lib.hid (sumB_len l)
          go_wp2_with (first
            | (guard_target =~ wpList _ _ _ (Oper.mk _ (Op.load 25 _) _ _ _ _ :: _) _ _; refine wpList_load_arr 32 rfl rfl rfl hF (by kernel_rfl) (by rw [vals_len, hsl.out]) ?_)
            | (guard_target =~ wpList _ _ _ (Oper.mk _ (Op.store _ _ _) _ _ _ _ :: _) _ _; refine wpList_store_arr (cs' := vals (sumB l)) 32 rfl rfl rfl rfl hR (by kernel_rfl) rfl (by rw [vals_len, hsl.out]) (vals_one _) ?_))
          intro V2 hR3 ho3 hb3 hs3
          have hw3 := hw.trans hb3
          clear hR hX hF hw ho3 hb3 hs3
          go_wp2
          exact ret_arr rfl w.heap.size _ _ rfl hR3 Tryd.underlying25 rfl (by rw [vals_len, hsl.out]; kernel_rfl) rfl ⟨rfl, hw3⟩
end Go.Proofs.YtcaeaejbccgpoaaDoor.sha
