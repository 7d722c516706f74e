/-
  THE CONTRACTS OF the document's Of and Tag, for any key.
-/
import Derived.Test.YtcaeaejbccgpoaaDoorMacRef
namespace Go.Proofs.YtcaeaejbccgpoaaDoor.mac
open Go.RowKit Go.Proofs.YtcaeaejbccgpoaaDoor.octets Go.Proofs.YtcaeaejbccgpoaaDoor.sha Go.Proofs.YtcaeaejbccgpoaaDoor.given
set_option linter.unusedVariables false
set_option linter.unusedSimpArgs false
/-- a tag written from the front on -/
def ft (T : List UInt8) (i : Nat) : List UInt8 := T.take i ++ List.replicate (8 - i) 0
theorem ft_len (T : List UInt8) (h : T.length = 8) (i : Nat) (hi : i ≤ 8) : (ft T i).length = 8 := by simp [ft, h]; omega
theorem ft_zero (T : List UInt8) : ft T 0 = List.replicate 8 0 := by simp [ft]
theorem ft_all (T : List UInt8) (h : T.length = 8) : ft T 8 = T := by rw [ft, List.take_of_length_le (by omega)]; simp
theorem ft_set (T : List UInt8) (h : T.length = 8) (i : Nat) (hi : i < 8) : (ft T i).set i (T[i]'(by omega)) = ft T (i + 1) := by
  have hl : (T.take i).length = i := by simp; omega
  rw [ft, ft, List.set_append_right _ _ (by omega), hl, Nat.sub_self, show 8 - i = (8 - (i + 1)) + 1 by omega, List.replicate_succ, List.set_cons_zero, List.take_succ_eq_append_getElem (by omega), List.append_assoc]
  rfl
theorem rof_ok (A B : Option Addr) (n c m d : Nat) (k l : List UInt8) (w : World) (hk : k.length = n) (hl : l.length = m) (hn : n ≤ 1048576) (hm : m ≤ 1048000) (sk : Seen w A k) (sl : Seen w B l) :
    Calls Tryd.prog 10 #[.slice A n c, .slice B m d] w fun e w' => e = .returned (.agg (vals (macB k l)).toArray) ∧ Below w.heap.size w w' := by
  by_cases h : 64 < n
  · exact rof_long A B n c m d k l w hk hl hn hm sk sl h
  · exact rof_short A B n c m d k l w hk hl hn hm sk sl (by omega)
set_option maxRecDepth 100000 in
set_option maxHeartbeats 1000000 in
theorem rtag_ok (A B : Option Addr) (n c m d : Nat) (k l : List UInt8) (w : World) (hk : k.length = n) (hl : l.length = m) (hn : n ≤ 1048576) (hm : m ≤ 1048000) (sk : Seen w A k) (sl : Seen w B l) :
    Calls Tryd.prog 12 #[.slice A n c, .slice B m d] w fun e w' => e = .returned (.agg (vals (tagB k l)).toArray) ∧ Below w.heap.size w w' := by
  have hw0 : Below w.heap.size w (w.alloc (.cells z8b.toArray 27)) := by go_grown
  have hR0 := Arr.new w z8b 27
  have sk0 := sk.since hw0
  have sl0 := sl.since hw0
  have hml := Lib.hid (macB_len k l)
  have htl := Lib.hid (tagB_len k l)
  have hz8 : Hid (z8b.length = 8) := Lib.hid rfl
  go_enter Tryd.func12, Tryd.ntmps12
  go_wp2_with fail
  refine (rof_ok A B n c m d k l _ hk hl hn hm sk0 sl0).mono ?_
  rintro e w1 ⟨rfl, hw1⟩
  have hR1 := hR0.since hw1
  have hw1' := hw0.trans (hw1.mono hw0.size)
  have hz1 := hw1'.size
  have hlt1 := hR1.lt
  clear hR0 hw0 hw1 sk0 sl0 sk sl hk hl
  have hF0 := Arr.new w1 z32 25
  go_wp2_with (guard_target =~ wpList _ _ _ (Oper.mk _ (Op.store 25 _ _) _ _ _ _ :: _) _ _; refine wpList_store_arr (cs' := vals (macB k l)) 32 rfl rfl rfl rfl hF0 (by kernel_rfl) rfl (by rw [vals_len, hml.out]) (vals_one _) ?_)
  intro w2 hM2 ho2 hb2 hs2
  have hR2 := (hR1.alloc (.cells z32.toArray 25)).of_block (ho2 _ (by omega))
  have hw2 := (hw1'.alloc hz1 (.cells z32.toArray 25)).trans (hb2.mono hz1)
  have hz2 := hw2.size
  have hgl := hM2.lt
  clear hF0 hR1 hw1' ho2 hb2 hs2
  generalize w1.heap.size = g at hM2 hz1 hlt1 hgl ⊢
  have hT0 := Arr.new w2 z8b 27
  go_wp2_with (guard_target =~ wpList _ _ _ (Oper.mk _ (Op.store 27 _ _) _ _ _ _ :: _) _ _; refine wpList_store_arr (cs' := z8b) 8 rfl rfl rfl rfl hT0 (by kernel_rfl) rfl rfl (by rw [z8b_vals]; exact vals_one _) ?_)
  intro w3 hT3 ho3 hb3 hs3
  have hR3 := (hR2.alloc (.cells z8b.toArray 27)).of_block (ho3 _ (by omega))
  have hM3 := (hM2.alloc (.cells z8b.toArray 27)).of_block (ho3 _ (by omega))
  have hw3 := (hw2.alloc hz2 (.cells z8b.toArray 27)).trans (hb3.mono hz2)
  have hgt : Hid (g < w2.heap.size) := Lib.hid hgl
  have htz : Hid (w.heap.size < w2.heap.size) := Lib.hid (by omega)
  clear hT0 hR2 hM2 hw2 ho3 hb3 hs3 hgl
  generalize w2.heap.size = x at hT3 hgt htz hz2 ⊢
  obtain ⟨T, hT⟩ : ∃ T, T = tagB k l := ⟨_, rfl⟩
  have hTl : Hid (T.length = 8) := Lib.hid (by rw [hT, tagB_len])
  have hTk : Unit → T = (macB k l).take 8 := fun _ => hT
  have hTe : Unit → T = tagB k l := fun _ => hT
  clear hT htl
  replace hT3 : Arr w3 x (vals (ft T 0)) := by rw [ft_zero, ← z8b_vals]; exact hT3
  go_wp2
  go_loopw [7] (fun t V => ∃ i : Nat, i ≤ 8 ∧ t = .int .i64 i ∧ Below w.heap.size w V ∧ Arr V w.heap.size z8b ∧ Arr V g (vals (macB k l)) ∧ Arr V x (vals (ft T i))) (fun t _ => 8 - (intOf t).toNat)
  case atStart => exact ⟨0, by omega, rfl, hw3, hR3, hM3, hT3⟩
  case round =>
    clear hw3 hR3 hM3 hT3
    obtain ⟨i, hi, rfl, hw, hR, hM, hX⟩ := hrel
    by_cases hil : i < 8
    · have hiT : i < T.length := by rw [hTl.out]; exact hil
      obtain ⟨y, hy⟩ : ∃ y, T[i] = y := ⟨_, rfl⟩
      have hyl := y.toNat_lt
      have hc : wr.cell? ⟨g, i, none⟩ = some (.int .u8 (y.toNat : Int)) := hM.cell (vals_at (by
        have : T[i]? = some y := by rw [List.getElem?_eq_getElem hiT, hy]
        rw [hTk (), List.getElem?_take_of_lt hil] at this
        exact this))
      have hfl := ft_len T hTl.out i hi
      have ho := hX.cell (i := i) (vals_get (by rw [hfl]; exact hil))
      have hf := hX.frozen i
      have hset := hX.set i (.int .u8 (y.toNat : Int))
      have es : (vals (ft T i)).set i (.int .u8 (y.toNat : Int)) = vals (ft T (i + 1)) := by
        rw [← ft_set T hTl.out i hil, hy, vals, vals, List.map_set]
      rw [es] at hset
      generalize (ft T i)[i]'(by rw [hfl]; exact hil) = old at ho
      replace hset := Lib.hid hset
      have i8 : (i : Int) < 8 := by omega
      have i32 : (i : Int) < 32 := by omega
      clear es hfl hy hiT
      go_wp2
      go_roundw
      case rel => exact ⟨i + 1, by omega, by go_num, hw.setCell (by show _ ≤ x; have := htz.out; omega) _, hR.other (by show _ ≠ x; have := htz.out; omega) _, hM.other (by show _ ≠ x; have := hgt.out; omega) _, hset.out⟩
      case measure => simp [intOf]; omega
    · obtain rfl : i = 8 := by omega
      simp only [show ((8 : Nat) : Int) = 8 from rfl]
      rw [ft_all T hTl.out] at hX
      go_wp2_with (first
        | (guard_target =~ wpList _ _ _ (Oper.mk _ (Op.load _ _) _ _ _ _ :: _) _ _; refine wpList_load_arr 8 rfl rfl rfl hX (by kernel_rfl) (by rw [vals_len, hTl.out]) ?_)
        | (guard_target =~ wpList _ _ _ (Oper.mk _ (Op.store _ _ _) _ _ _ _ :: _) _ _; refine wpList_store_arr (cs' := vals T) 8 rfl rfl rfl rfl hR (by kernel_rfl) hz8.out (by rw [vals_len, hTl.out]) (vals_one _) ?_))
      intro w8 hR8 ho8 hb8 hs8
      have hw8 := hw.trans hb8
      clear hR hM hX hw ho8 hb8 hs8
      go_wp2
      exact ret_arr rfl w.heap.size _ _ rfl hR8 Tryd.underlying27 rfl (by rw [vals_len, hTl.out]; kernel_rfl) rfl ⟨by rw [hTe ()], hw8⟩
end Go.Proofs.YtcaeaejbccgpoaaDoor.mac
