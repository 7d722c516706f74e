/-
  THE CONTRACTS OF mac: what fills the key, what sums the parts, Of.
-/
import Derived.Test.YtmgfgbdfmdblhaaDoorMacOwn
import Derived.Test.YtmgfgbdfmdblhaaDoorShaAt
import Derived.Deep.RegionHeld3
namespace Go.Proofs.YtmgfgbdfmdblhaaDoor.mac
open Go.RowKit Go.Proofs.YtmgfgbdfmdblhaaDoor.octets Go.Proofs.YtmgfgbdfmdblhaaDoor.sha
set_option linter.unusedVariables false
set_option linter.unusedSimpArgs false

/-- 'x[:]' -/
theorem cut32 (g : Nat) (W : World) : (Instr.sliceAt 22 (.pointer (some ⟨g, 0, none⟩)) none none none).run Tryd.prog W = .ok (.slice (some ⟨g, 0, none⟩) 32 32) W := by
  have hl : Tryd.prog.arrayLen 22 = 32 := by simp [Program.arrayLen, Tryd.underlying22]
  have he : Tryd.prog.elem 22 = 5 := by simp [Program.elem, Tryd.underlying22]
  have ht : Tryd.prog.underlying 22 = some (.array (Tryd.prog.arrayLen 22) (Tryd.prog.elem 22)) := by rw [hl, he]; exact Tryd.underlying22
  rw [run_sliceAt_array_all W _ _ ht, he, hl, size_u8]
  simp [Result.andThen, slicedAt, Addr.add]
/-- 'copy(k[:], key)', k of 64 noughts, the key of 64 bytes at most -/
theorem wpList_copy_key (w : World) {ops : Array Oper} {rest : List Oper} {o : Oper} {a : Act} {Q : Exit → Act → World → Prop} (hgd : o.guard = none) (d s : Operand)
    (ho : o.op = .call { callee := .builtin .copy, args := #[d, s], argTypes := #[23, 23] })
    (g : Nat) (A : Option Addr) (n cc : Nat) (hd : a.eval d = .slice (some ⟨g, 0, none⟩) 64 64) (hs : a.eval s = .slice A n cc) (hX : Arr w g zb64) (S : List UInt8) (hS : S.length = n) (hn : n ≤ 64) (hp : Seen w A S)
    (h : ∀ w', Arr w' g (vals (fillB S)) → Below g w w' → wpList Tryd.prog ops Q rest (a.put o.dst (goInt (n : Nat))) w') : wpList Tryd.prog ops Q (o :: rest) a w := by
  subst hS
  obtain ⟨t, hg⟩ := hX
  have hlen : (vals S).length = S.length := vals_len S
  refine wpList_copy_splice hgd d s _ _ ho 5 Tryd.underlying23 (by kernel_rfl) _ _ _ _ _ _ hd hs g 0 zb64 t hg (vals S) (by rw [hlen]; show _ = min _ _; omega) (fun hpos => ⟨rfl, ?_⟩) (by rw [hlen, show zb64.length = 64 by simp [zb64]]; omega) (vals_one _) g w (Below.refl _ _) (Nat.le_refl _) ?_
  · rw [hlen] at hpos
    obtain ⟨b, o', rfl, hb, hc⟩ := hp.at_ hpos
    refine ⟨_, rfl, fun j v hv => ?_⟩
    have hj := (List.getElem?_eq_some_iff.1 hv).1
    rw [hlen] at hj
    rw [vals_get hj] at hv
    rw [Addr.add_mid, hc j hj, ← hv]
  · intro w' hg' hb'
    rw [hlen]
    refine h w' ⟨t, ?_⟩ hb'
    have e : splice zb64 0 (vals S) = vals (fillB S) := by
      rw [splice, List.take_zero, List.nil_append, Nat.zero_add, hlen, fillB, vals_add]
      rw [zb64, List.drop_replicate, vals, vals, List.map_replicate]
      rfl
    rw [← e]
    exact hg'.out
theorem zb64_vals : zb64 = vals (List.replicate 64 0) := by simp [zb64, vals]
theorem zb64_one : ∀ v ∈ zb64, v.oneCell' = true := by rw [zb64_vals]; exact vals_one _
set_option maxRecDepth 100000 in
set_option maxHeartbeats 1000000 in
theorem filled_ok (A : Option Addr) (n c : Nat) (l : List UInt8) (w : World) (hl : l.length = n) (hn : n ≤ 1048576) (hs : Seen w A l) (hK : Table w) :
    Calls Tryd.prog 19 #[.slice A n c] w fun e w' => e = .returned (.agg (vals (keyB l)).toArray) ∧ Below w.heap.size w w' := by
  have hw0 : Below w.heap.size w ((w.alloc (.cells zb64.toArray 47)).alloc (.cells zb64.toArray 47)) := by go_grown
  have hR0 := (Arr.new w zb64 47).alloc (.cells zb64.toArray 47)
  have hX0 := Arr.new (w.alloc (.cells zb64.toArray 47)) zb64 47
  simp only [World.size_alloc] at hX0
  have hs0 := hs.since hw0
  have hK0 := hK.since hw0
  have hzl : Hid (zb64.length = 64) := Lib.hid (by simp [zb64])
  have hkl := Lib.hid (keyB_len l)
  have hcut := cut_all (w.heap.size + 1)
  by_cases hlt : 64 < n
  · have hkey := keyB_long (k := l) (by omega)
    replace hl := Lib.hid hl
    replace hkey : Unit → keyB l = fillB (sumB l) := fun _ => hkey
    go_enter Tryd.func19, Tryd.ntmps19
    go_wp2_with fail
    refine (sum_at A n c l _ hl.out hn hs0 hK0).mono ?_
    rintro e w1 ⟨rfl, hw1⟩
    have hR1 := hR0.since hw1
    have hX1 := hX0.since hw1
    have hw1' := hw0.trans (hw1.mono hw0.size)
    have hz := hw1'.size
    have hz2 := hX1.lt
    clear hR0 hX0 hs0 hK0 hw0 hw1 hs hK
    have hF0 := Arr.new w1 z32 22
    go_wp2_with (guard_target =~ wpList _ _ _ (Oper.mk _ (Op.store _ _ _) _ _ _ _ :: _) _ _; refine wpList_store_arr (cs' := vals (sumB l)) 32 rfl rfl rfl rfl hF0 (by kernel_rfl) rfl (by rw [vals_len, sumB_len]) (vals_one _) ?_)
    intro w2 hF ho hb hsz
    have hR2 := (hR1.alloc (.cells z32.toArray 22)).of_block (ho _ (by omega))
    have hX2 := (hX1.alloc (.cells z32.toArray 22)).of_block (ho _ (by omega))
    have hw2 := (hw1'.alloc hz (.cells z32.toArray 22)).trans (hb.mono hz)
    have hcut2 := cut32 w1.heap.size
    clear hF0 hR1 hX1 hw1' ho hb hsz
    generalize w1.heap.size = g at hF hcut2 hz hz2 ⊢
    go_wp2_with (guard_target =~ wpList _ _ _ (Oper.mk _ (Op.call ⟨Callee.builtin Builtin.copy, _, _⟩) _ _ _ _ :: _) _ _; refine wpList_copy_key _ rfl _ _ rfl (w.heap.size + 1) (some ⟨g, 0, none⟩) 32 32 rfl rfl hX2 (sumB l) (sumB_len l) (by decide) (Arr.seen hF) ?_)
    intro w3 hX3 hb3
    rw [← hkey ()] at hX3
    have hR3 := hR2.below hb3 (by omega)
    have hw3 := hw2.trans (hb3.mono (by omega))
    clear hF hR2 hX2 hw2 hb3
    go_wp2_with (first
      | (guard_target =~ wpList _ _ _ (Oper.mk _ (Op.load _ _) _ _ _ _ :: _) _ _; refine wpList_load_arr 64 rfl rfl rfl hX3 (by kernel_rfl) (by rw [vals_len, hkl.out]) ?_)
      | (guard_target =~ wpList _ _ _ (Oper.mk _ (Op.store _ _ _) _ _ _ _ :: _) _ _; refine wpList_store_arr (cs' := vals (keyB l)) 64 rfl rfl rfl rfl hR3 (by kernel_rfl) hzl.out (by rw [vals_len, hkl.out]) (vals_one _) ?_))
    intro w4 hR4 ho4 hb4 hs4
    have hw4 := hw3.trans hb4
    clear hR3 hX3 hw3 ho4 hb4 hs4
    go_wp2
    exact ret_arr rfl w.heap.size _ _ rfl hR4 Tryd.underlying47 rfl (by rw [vals_len, hkl.out]; kernel_rfl) rfl ⟨rfl, hw4⟩
  · have hkey := keyB_short (k := l) (by omega)
    have hn64 : n ≤ 64 := by omega
    replace hl := Lib.hid hl
    replace hkey : Unit → keyB l = fillB l := fun _ => hkey
    clear hs hK hK0 hlt hn
    go_enter Tryd.func19, Tryd.ntmps19
    go_wp2_with (guard_target =~ wpList _ _ _ (Oper.mk _ (Op.call ⟨Callee.builtin Builtin.copy, _, _⟩) _ _ _ _ :: _) _ _; refine wpList_copy_key _ rfl _ _ rfl (w.heap.size + 1) A n c rfl rfl hX0 l hl.out hn64 hs0 ?_)
    intro w3 hX3 hb3
    rw [← hkey ()] at hX3
    have hR3 := hR0.below hb3 (by omega)
    have hw3 := hw0.trans (hb3.mono (by omega))
    clear hR0 hX0 hw0 hb3 hs0
    go_wp2_with (first
      | (guard_target =~ wpList _ _ _ (Oper.mk _ (Op.load _ _) _ _ _ _ :: _) _ _; refine wpList_load_arr 64 rfl rfl rfl hX3 (by kernel_rfl) (by rw [vals_len, hkl.out]) ?_)
      | (guard_target =~ wpList _ _ _ (Oper.mk _ (Op.store _ _ _) _ _ _ _ :: _) _ _; refine wpList_store_arr (cs' := vals (keyB l)) 64 rfl rfl rfl rfl hR3 (by kernel_rfl) hzl.out (by rw [vals_len, hkl.out]) (vals_one _) ?_))
    intro w4 hR4 ho4 hb4 hs4
    have hw4 := hw3.trans hb4
    clear hR3 hX3 hw3 ho4 hb4 hs4
    go_wp2
    exact ret_arr rfl w.heap.size _ _ rfl hR4 Tryd.underlying47 rfl (by rw [vals_len, hkl.out]; kernel_rfl) rfl ⟨rfl, hw4⟩
set_option maxRecDepth 100000 in
set_option maxHeartbeats 1000000 in
theorem msum_ok (pb : Nat) (A1 A2 : Option Addr) (n1 c1 n2 c2 : Nat) (l1 l2 : List UInt8) (w : World) (h1 : l1.length = n1) (h2 : l2.length = n2) (hn : n1 + n2 ≤ 1048576) (s1 : Seen w A1 l1) (s2 : Seen w A2 l2)
    (p1 : w.cell? ⟨pb, 0, none⟩ = some (.slice A1 n1 c1)) (p2 : w.cell? ⟨pb, 1, none⟩ = some (.slice A2 n2 c2)) (hpb : pb < w.heap.size) (hK : Table w) :
    Calls Tryd.prog 20 #[.slice (some ⟨pb, 0, none⟩) 2 2] w fun e w' => e = .returned (.agg (vals (sumB (l1 ++ l2))).toArray) ∧ Below w.heap.size w w' := by
  have hw0 : Below w.heap.size w (w.alloc (.cells z32.toArray 22)) := by go_grown
  have hR0 := Arr.new w z32 22
  have q1 := (hw0.cell (p := ⟨pb, 0, none⟩) hpb).trans p1
  have q2 := (hw0.cell (p := ⟨pb, 1, none⟩) hpb).trans p2
  have t1 := s1.since hw0
  have t2 := s2.since hw0
  have hlt : pb < (w.alloc (.cells z32.toArray 22)).heap.size := by simp; omega
  have hll : (l1 ++ l2).length = n1 + n2 := by rw [List.length_append, h1, h2]
  obtain ⟨N, hN⟩ : ∃ N, n1 + n2 = N := ⟨_, rfl⟩
  rw [hN] at hll hn
  have hn1 : n1 ≤ 1048576 := by omega
  have hn2 : n2 ≤ 1048576 := by omega
  replace hN : Unit → n1 + n2 = N := fun _ => hN
  replace hll := Lib.hid hll
  replace h1 := Lib.hid h1
  replace h2 := Lib.hid h2
  go_enter Tryd.func20, Tryd.ntmps20
  go_wp2_with fail
  refine (concat_ok pb A1 A2 n1 c1 n2 c2 l1 l2 _ h1.out h2.out hn1 hn2 t1 t2 q1 q2 hlt).mono ?_
  rintro e w1 ⟨v, rfl, ho, hw1⟩
  obtain ⟨B, c, rfl, hs⟩ := ho.seen_at hll.out
  have hR1 := hR0.since hw1
  have hw1' := hw0.trans (hw1.mono hw0.size)
  have hT := hK.since hw1'
  clear hR0 hw0 hw1 t1 t2 q1 q2 hlt p1 p2 s1 s2 ho hK
  go_wp2_with fail
  refine (sum_at B N c (l1 ++ l2) _ hll.out hn hs hT).mono ?_
  rintro e w2 ⟨rfl, hw2⟩
  have hR2 := hR1.since hw2
  have hw2' := hw1'.trans (hw2.mono hw1'.size)
  have hsl := Lib.hid (sumB_len (l1 ++ l2))
  clear hR1 hw1' hw2 hs hT
  go_wp2_with (guard_target =~ wpList _ _ _ (Oper.mk _ (Op.store _ _ _) _ _ _ _ :: _) _ _; refine wpList_store_arr (cs' := vals (sumB (l1 ++ l2))) 32 rfl rfl rfl rfl hR2 (by kernel_rfl) rfl (by rw [vals_len, hsl.out]) (vals_one _) ?_)
  intro w3 hR3 ho3 hb3 hs3
  have hw3 := hw2'.trans hb3
  clear hR2 hw2' ho3 hb3 hs3
  go_wp2
  exact ret_arr rfl w.heap.size _ _ rfl hR3 Tryd.underlying22 rfl (by rw [vals_len, hsl.out]; kernel_rfl) rfl ⟨rfl, hw3⟩
end Go.Proofs.YtmgfgbdfmdblhaaDoor.mac
