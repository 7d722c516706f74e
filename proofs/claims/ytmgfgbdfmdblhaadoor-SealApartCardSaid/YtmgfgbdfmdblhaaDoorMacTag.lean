/-
  THE CONTRACT OF mac's Tag; the head of the statements; what they cut.
-/
import Derived.Test.YtmgfgbdfmdblhaaDoorMacOf
namespace Go.Proofs.YtmgfgbdfmdblhaaDoor.mac
open Go.RowKit Go.Proofs.YtmgfgbdfmdblhaaDoor.octets Go.Proofs.YtmgfgbdfmdblhaaDoor.sha Go.Proofs.YtmgfgbdfmdblhaaDoor.given
set_option linter.unusedVariables false
set_option linter.unusedSimpArgs false

def tagB (k l : List UInt8) : List UInt8 := (macB k l).take 8
theorem tagB_len (k l : List UInt8) : (tagB k l).length = 8 := by rw [tagB, List.length_take, macB_len]; rfl
def z8b : List Value := List.replicate 8 (.int .u8 0)
theorem z8b_vals : z8b = vals (List.replicate 8 0) := by simp [z8b, vals]
/-- 's[:8]' -/
theorem cut8 (g : Nat) (W : World) : (Instr.sliceAt 22 (.pointer (some ⟨g, 0, none⟩)) none (some (.int .i64 8)) none).run Tryd.prog W = .ok (.slice (some ⟨g, 0, none⟩) 8 32) W := by
  have hl : Tryd.prog.arrayLen 22 = 32 := by simp [Program.arrayLen, Tryd.underlying22]
  have he : Tryd.prog.elem 22 = 5 := by simp [Program.elem, Tryd.underlying22]
  have ht : Tryd.prog.underlying 22 = some (.array (Tryd.prog.arrayLen 22) (Tryd.prog.elem 22)) := by rw [hl, he]; exact Tryd.underlying22
  rw [run_sliceAt_array_h W _ _ ht .i64 8 (by decide) (by rw [hl]; decide), he, hl, size_u8]
  simp [Result.andThen, slicedAt, Addr.add]
theorem fit8 (a : Addr) (c : Nat) (W : World) : (Instr.arrayAt 29 (.slice (some a) 8 c)).run Tryd.prog W = .ok (.pointer (some a)) W := by
  simp [Instr.arrayAt, run_underlying Tryd.underlying29]
set_option maxRecDepth 100000 in
set_option maxHeartbeats 1000000 in
theorem tag_ok (A B : Option Addr) (n c m d : Nat) (k l : List UInt8) (w : World) (hk : k.length = n) (hl : l.length = m) (hn : n ≤ 1048576) (hm : m ≤ 1048000) (sk : Seen w A k) (sl : Seen w B l) (hK : Table w) :
    Calls Tryd.prog 8 #[.slice A n c, .slice B m d] w fun e w' => e = .returned (.agg (vals (tagB k l)).toArray) ∧ Below w.heap.size w w' := by
  have hw0 : Below w.heap.size w (w.alloc (.cells z8b.toArray 29)) := by go_grown
  have hR0 := Arr.new w z8b 29
  have sk0 := sk.since hw0
  have sl0 := sl.since hw0
  have hK0 := hK.since hw0
  have hml := Lib.hid (macB_len k l)
  have htl := Lib.hid (tagB_len k l)
  have htk : Unit → (macB k l).take 8 = tagB k l := fun _ => rfl
  have hz8 : Hid (z8b.length = 8) := Lib.hid rfl
  go_enter Tryd.func8, Tryd.ntmps8
  go_wp2_with fail
  refine (of_ok A B n c m d k l _ hk hl hn hm sk0 sl0 hK0).mono ?_
  rintro e w1 ⟨rfl, hw1⟩
  have hR1 := hR0.since hw1
  have hw1' := hw0.trans (hw1.mono hw0.size)
  have hz1 := hw1'.size
  have hlt1 := hR1.lt
  clear hR0 hw0 hw1 sk0 sl0 hK0 sk sl hk hl hK
  have hF0 := Arr.new w1 z32 22
  go_wp2_with (guard_target =~ wpList _ _ _ (Oper.mk _ (Op.store _ _ _) _ _ _ _ :: _) _ _; refine wpList_store_arr (cs' := vals (macB k l)) 32 rfl rfl rfl rfl hF0 (by kernel_rfl) rfl (by rw [vals_len, hml.out]) (vals_one _) ?_)
  intro w2 hM2 ho2 hb2 hs2
  have hR2 := (hR1.alloc (.cells z32.toArray 22)).of_block (ho2 _ (by omega))
  have hw2 := (hw1'.alloc hz1 (.cells z32.toArray 22)).trans (hb2.mono hz1)
  have hcut := cut8 w1.heap.size
  have hfit := fit8 ⟨w1.heap.size, 0, none⟩ 32
  clear hF0 hR1 hw1' ho2 hb2 hs2
  generalize w1.heap.size = g at hM2 hcut hfit hz1 hlt1 ⊢
  go_wp2_with (first
    | (guard_target =~ wpList _ _ _ (Oper.mk _ (Op.load _ _) _ _ _ _ :: _) _ _; refine wpList_load_first (vals (tagB k l)) 8 rfl rfl rfl hM2 (by kernel_rfl) (by rw [vals_len, hml.out]; decide) (by rw [vals_take, htk ()]) ?_)
    | (guard_target =~ wpList _ _ _ (Oper.mk _ (Op.store _ _ _) _ _ _ _ :: _) _ _; refine wpList_store_arr (cs' := vals (tagB k l)) 8 rfl rfl rfl rfl hR2 (by kernel_rfl) hz8.out (by rw [vals_len, htl.out]) (vals_one _) ?_))
  intro w3 hR3 ho3 hb3 hs3
  have hw3 := hw2.trans hb3
  clear hR2 hM2 hw2 ho3 hb3 hs3
  go_wp2
  exact ret_arr rfl w.heap.size _ _ rfl hR3 Tryd.underlying29 rfl (by rw [vals_len, htl.out]; kernel_rfl) rfl ⟨rfl, hw3⟩
end Go.Proofs.YtmgfgbdfmdblhaaDoor.mac
