/-
  THE CONTRACT OF mac's Tag; the head of the statements; what they cut.
-/
import Derived.Test.YtcaeaejbccgpoaaDoorMacOf
namespace Go.Proofs.YtcaeaejbccgpoaaDoor.mac
open Go.RowKit Go.Proofs.YtcaeaejbccgpoaaDoor.octets Go.Proofs.YtcaeaejbccgpoaaDoor.sha Go.Proofs.YtcaeaejbccgpoaaDoor.given
set_option linter.unusedVariables false
set_option linter.unusedSimpArgs false

def tagB (k l : List UInt8) : List UInt8 := (macB k l).take 8
theorem tagB_len (k l : List UInt8) : (tagB k l).length = 8 := by rw [tagB, List.length_take, macB_len]; rfl
def z8b : List Value := List.replicate 8 (.int .u8 0)
theorem z8b_vals : z8b = vals (List.replicate 8 0) := by simp [z8b, vals]
/-- 's[:8]' -/
theorem cut8 (g : Nat) (W : World) : (Instr.sliceAt 25 (.pointer (some ⟨g, 0, none⟩)) none (some (.int .i64 8)) none).run Tryd.prog W = .ok (.slice (some ⟨g, 0, none⟩) 8 32) W := by
  have hl : Tryd.prog.arrayLen 25 = 32 := by simp [Program.arrayLen, Tryd.underlying25]
  have he : Tryd.prog.elem 25 = 5 := by simp [Program.elem, Tryd.underlying25]
  have ht : Tryd.prog.underlying 25 = some (.array (Tryd.prog.arrayLen 25) (Tryd.prog.elem 25)) := by rw [hl, he]; exact Tryd.underlying25
  rw [run_sliceAt_array_h W _ _ ht .i64 8 (by decide) (by rw [hl]; decide), he, hl, size_u8]
  simp [Result.andThen, slicedAt, Addr.add]
theorem fit8 (a : Addr) (c : Nat) (W : World) : (Instr.arrayAt 27 (.slice (some a) 8 c)).run Tryd.prog W = .ok (.pointer (some a)) W := by
  simp [Instr.arrayAt, run_underlying Tryd.underlying27]
/-- the load of the first n of a block -/
theorem wpList_load_first {P : Program} {ops : Array Oper} {rest : List Oper} {o : Oper} {a : Act} {w : World} {Q : Exit → Act → World → Prop} {ty : TypeId} {x : Operand} {b : Nat} {cs : List Value} (cs' : List Value) (n : Nat) (hgd : o.guard = none) (ho : o.op = .load ty x)
    (hx : a.eval x = .pointer (some ⟨b, 0, none⟩)) (hA : Arr w b cs) (hr : rowB P ty n = true) (hn : n ≤ cs.length) (hcs : cs.take n = cs') (h : wpList P ops Q rest (a.put o.dst (.agg cs'.toArray)) w) : wpList P ops Q (o :: rest) a w := by
  subst hcs
  obtain ⟨d, h1, h2, h3⟩ := rowB_spec hr
  have hp : w.rangeAt b 0 (cs.take n) := by simpa using hA.part 0 n
  exact wpList_load_mid hgd ty x ho b 0 hx (cs.take n) d hp h1 h2 (by rw [h3, List.length_take, Nat.min_eq_left hn]) h
theorem vals_take (l : List UInt8) (n : Nat) : (vals l).take n = vals (l.take n) := by rw [vals, vals, List.map_take]
set_option maxRecDepth 100000 in
set_option maxHeartbeats 1000000 in
theorem tag_ok (A B : Option Addr) (n c m d : Nat) (k l : List UInt8) (w : World) (hk : k.length = n) (hl : l.length = m) (hn : n ≤ 1048576) (hm : m ≤ 1048000) (sk : Seen w A k) (sl : Seen w B l) (hK : Table w) :
    Calls Tryd.prog 11 #[.slice A n c, .slice B m d] w fun e w' => e = .returned (.agg (vals (tagB k l)).toArray) ∧ Below w.heap.size w w' := by
  have hw0 : Below w.heap.size w (w.alloc (.cells z8b.toArray 27)) := by go_grown
  have hR0 := Arr.new w z8b 27
  have sk0 := sk.since hw0
  have sl0 := sl.since hw0
  have hK0 := hK.since hw0
  have hml := Lib.hid (macB_len k l)
  have htl := Lib.hid (tagB_len k l)
  have htk : Unit → (macB k l).take 8 = tagB k l := fun _ => rfl
  have hz8 : Hid (z8b.length = 8) := Lib.hid rfl
  go_enter Tryd.func11, Tryd.ntmps11
  go_wp2_with fail
  refine (of_ok A B n c m d k l _ hk hl hn hm sk0 sl0 hK0).mono ?_
  rintro e w1 ⟨rfl, hw1⟩
  have hR1 := hR0.since hw1
  have hw1' := hw0.trans (hw1.mono hw0.size)
  have hz1 := hw1'.size
  have hlt1 := hR1.lt
  clear hR0 hw0 hw1 sk0 sl0 hK0 sk sl hk hl hK
  have hF0 := Arr.new w1 z32 25
  go_wp2_with (guard_target =~ wpList _ _ _ (Oper.mk _ (Op.store _ _ _) _ _ _ _ :: _) _ _; refine wpList_store_arr (cs' := vals (macB k l)) 32 rfl rfl rfl rfl hF0 (by kernel_rfl) rfl (by rw [vals_len, hml.out]) (vals_one _) ?_)
  intro w2 hM2 ho2 hb2 hs2
  have hR2 := (hR1.alloc (.cells z32.toArray 25)).of_block (ho2 _ (by omega))
  have hw2 := (hw1'.alloc hz1 (.cells z32.toArray 25)).trans (hb2.mono hz1)
  have hcut := cut8 w1.heap.size
  have hfit := fit8 ⟨w1.heap.size, 0, none⟩ 32
  clear hF0 hR1 hw1' ho2 hb2 hs2
  generalize w1.heap.size = g at hM2 hcut hfit hz1 hlt1 ⊢
  go_wp2_with (first
    | (guard_target =~ wpList _ _ _ (Oper.mk _ (Op.load _ _) _ _ _ _ :: _) _ _; refine wpList_load_first (vals (tagB k l)) 8 rfl rfl rfl hM2 (by kernel_rfl) (by rw [vals_len, hml.out]; decide) (by rw [vals_take, htk ()]) ?_)
    | (guard_target =~ wpList _ _ _ (Oper.mk _ (Op.store _ _ _) _ _ _ _ :: _) _ _; refine wpList_store_arr (cs' := vals (tagB k l)) 8 rfl rfl rfl rfl hR2 (by kernel_rfl) hz8.out (by rw [vals_len, htl.out]) (vals_one _) ?_))
  intro w3 hR3 ho3 hb3 hs3
  have hw3 := hw2.trans hb3
  clear hR2 hM2 hw2 ho3 hb3 hs3
  go_wp2
  exact ret_arr rfl w.heap.size _ _ rfl hR3 Tryd.underlying27 rfl (by rw [vals_len, htl.out]; kernel_rfl) rfl ⟨rfl, hw3⟩
set_option maxHeartbeats 400000 in
theorem few_ok (A : Option Addr) (n cap m : Nat) (w : World) (hc : n ≤ cap) (hm : m = min n 150) :
    Calls Tryd.prog 8 #[.slice A n cap] w fun e w' => e = .returned (.slice A m cap) ∧ w = w' := by
  have hs := slice_h A n cap m (by omega)
  have em : min (n : Int) 150 = (m : Int) := by omega
  clear hm
  go_enter Tryd.func8, Tryd.ntmps8
  go_wp2
  go_ret
  exact ⟨rfl, rfl⟩
def jefe : List UInt8 := [74, 101, 102, 101]
def want : List UInt8 := [119, 104, 97, 116, 32, 100, 111, 32, 121, 97, 32, 119, 97, 110, 116, 32, 102, 111, 114, 32, 110, 111, 116, 104, 105, 110, 103, 63]
set_option maxRecDepth 100000 in
theorem mac_jefe : (macB jefe want).take 4 = [91, 220, 193, 70] := by decide +kernel
end Go.Proofs.YtcaeaejbccgpoaaDoor.mac
