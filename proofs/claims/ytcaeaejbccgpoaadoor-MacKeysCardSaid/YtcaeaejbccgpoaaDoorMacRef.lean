/-
  THE CONTRACTS OF the document's Of and Tag.
-/
import Derived.Test.YtcaeaejbccgpoaaDoorMacTag
namespace Go.Proofs.YtcaeaejbccgpoaaDoor.mac
open Go.RowKit Go.Proofs.YtcaeaejbccgpoaaDoor.octets Go.Proofs.YtcaeaejbccgpoaaDoor.sha Go.Proofs.YtcaeaejbccgpoaaDoor.given
set_option linter.unusedVariables false
set_option linter.unusedSimpArgs false

/-- two slices of the call's own that lie apart -/
def Apart (u v : Value) : Prop := ∀ g, u.ownBlock = some g → v.ownBlock ≠ some g
theorem Apart.symm {u v : Value} (h : Apart u v) : Apart v u := fun g hv hu => h g hu hv
theorem Apart.next {w : World} {base : Nat} {u u' v : Value} {l : List UInt8} (h : Apart u v) (hv : Own w base v l) (ho : u'.ownBlock = u.ownBlock ∨ u'.ownBlock = some w.heap.size) : Apart u' v := by
  intro g hg hv'
  rcases ho with e | e
  · exact h g (e ▸ hg) hv'
  · rw [e] at hg
    obtain rfl := Option.some.inj hg
    have := (hv.lt hv').2
    omega
theorem Apart.row {u v : Value} (h : Apart u v) : ∀ g, v.ownBlock = some g → some g ≠ u.ownBlock := fun g hg e => h g e.symm hg
theorem own_below {w w' : World} {base : Nat} {v : Value} {l : List UInt8} (h : Own w base v l) (hb : base ≤ w.heap.size) (hg : w.grownBy w' v.ownBlock) : Below base w w' := h.grew (Below.refl _ _) (Nat.le_refl _) hb hg
/-- j noughts behind it -/
def nl (L : List UInt8) (j : Nat) : List UInt8 := L ++ List.replicate j 0
theorem nl_zero (L : List UInt8) : nl L 0 = L := by simp [nl]
theorem nl_step (L : List UInt8) (j : Nat) : nl L j ++ [0] = nl L (j + 1) := by rw [nl, nl, List.append_assoc, List.replicate_succ']
theorem nl_len (L : List UInt8) (j : Nat) : (nl L j).length = L.length + j := by simp [nl]
set_option maxRecDepth 100000 in
set_option maxHeartbeats 4000000 in
theorem rof_short (A B : Option Addr) (n c m d : Nat) (k l : List UInt8) (w : World) (hk : k.length = n) (hl : l.length = m) (hn : n ≤ 1048576) (hm : m ≤ 1048000) (sk : Seen w A k) (sl : Seen w B l) (hlt0 : n ≤ 64) :
    Calls Tryd.prog 10 #[.slice A n c, .slice B m d] w fun e w' => e = .returned (.agg (vals (macB k l)).toArray) ∧ Below w.heap.size w w' := by
  have hw0 : Below w.heap.size w (w.alloc (.cells z32.toArray 25)) := by go_grown
  have hR0 := Arr.new w z32 25
  have sk0 := sk.since hw0
  obtain ⟨K, hKl, hKK⟩ : ∃ K : List UInt8, K.length = 64 ∧ K = keyB k := ⟨_, keyB_len k, rfl⟩
  replace hKl := Lib.hid hKl
  replace hl := Lib.hid hl
  have hend : Unit → sumB (turnB 92 K ++ sumB (turnB 54 K ++ l)) = macB k l := fun _ => by rw [hKK]; rfl
  have hfill : Unit → fillB k = K := fun _ => by rw [hKK, keyB_short (by omega)]
  replace hk := Lib.hid hk
  have o0 := Own.empty (w.alloc (.cells z32.toArray 25)) (w.heap.size + 1) (by simp)
  rw [World.size_alloc] at o0
  have k0 := sk0.alloc (.cells #[] 5)
  replace hKK : Unit → K = keyB k := fun _ => hKK
  go_enter Tryd.func10, Tryd.ntmps10
  go_wp2_with (at_builtin; refine wpList_append_own_any _ rfl (.tmp 11) (.tmp 12) rfl (w.heap.size + 1) _ [] rfl o0 A n c rfl k hk.out k0 (by rw [hk.out, List.length_nil]; omega) (by simp) ?_)
  intro v1 w1 hO1 hg1 hat1
  try rw [List.nil_append] at hO1
  have hb1 : Below (w.heap.size + 1) (w.alloc (.cells z32.toArray 25)) w1 := ((Below.refl _ _).alloc (by simp) (.cells #[] 5)).grown hg1 (by simp) (by intro g hg; simp [Value.ownBlock] at hg; omega)
  have hR := hR0.below hb1 (Nat.lt_succ_self _)
  have hw := hw0.trans (hb1.mono (Nat.le_succ _))
  obtain ⟨B1, c1, rfl, hs1⟩ := hO1.seen_at (k := n) hk.out
  clear hR0 hw0 sk0 k0 o0 hg1 hat1 hb1
  have hO := hO1
  clear hO1 hs1 sk
  obtain ⟨L, N, hLk, hNn, hLl⟩ : ∃ (L : List UInt8) (N : Nat), L = k ∧ N = n ∧ Hid (L.length = N) := ⟨k, n, rfl, rfl, hk⟩
  rw [← hLk] at hO hfill
  rw [← hNn] at hO hlt0 ⊢
  clear hLk hNn hk hn
  go_wp2
  have hz := hw.size
  have hzR := hR.lt
  go_loopw [5] (fun t V => ∃ (j m : Nat) (B : Option Addr) (c : Nat), N + j ≤ 64 ∧ m = N + j ∧ t = .slice B m c ∧ Below w.heap.size w V ∧ Arr V w.heap.size z32 ∧ Own V (w.heap.size + 1) (.slice B m c) (nl L j)) (fun t _ => match t with | .slice _ n _ => 64 - n | _ => 0)
  case atStart => exact ⟨0, N, B1, c1, by omega, rfl, rfl, hw, hR, by rw [nl_zero]; exact hO⟩
  case round =>
    clear hw hR hO hz hzR
    obtain ⟨j, M, B2, c2, hj, hM, rfl, hw, hR, hO⟩ := hrel
    have hz := hw.size
    have hzR := hR.lt
    have hLj := Lib.hid (nl_len L j)
    by_cases hjl : N + j < 64
    · have hM64 : M < 64 := by omega
      replace hM : Unit → M = N + j := fun _ => hM
      go_wp2_with (at_builtin; refine wpList_append_own_any _ rfl (.tmp 25) (.tmp 26) rfl (w.heap.size + 1) _ (nl L j) rfl (hO.alloc _) (some ⟨wr.heap.size, 0, none⟩) 1 1 rfl [0] rfl (Held.lit wr [0] #[.int .u8 0] rfl (by simp [maxLen])).seen (by rw [hLj.out, hLl.out, List.length_singleton]; omega) (by simp; omega) ?_)
      intro v3 w3 hO3 hg3 hat3
      have hb3 := own_below (hO.alloc (.cells #[.int .u8 0] 5)) (by simp; omega) hg3
      have hw3 := (hw.alloc hz (.cells #[.int .u8 0] 5)).trans (hb3.mono (Nat.le_succ _))
      have hR3 := (hR.alloc (.cells #[.int .u8 0] 5)).below hb3 (Nat.lt_succ_self _)
      rw [nl_step] at hO3
      obtain ⟨B3, c3, rfl, hs3⟩ := hO3.seen_at (k := M + 1) (by rw [nl_len, hLl.out, hM ()]; omega)
      clear hs3 hg3 hat3 hb3 hw hR hO
      go_wp2
      go_roundw
      case rel => exact ⟨j + 1, M + 1, B3, c3, by omega, by have := hM (); omega, rfl, hw3, hR3, hO3⟩
      case measure => simp only; omega
    · have hM64 : M = 64 := by omega
      have eK : nl L j = K := by
        rw [← hfill (), nl, fillB, show 64 - L.length = j by rw [hLl.out]; omega]
      rw [eK] at hO
      clear hLj eK
      subst hM64
      obtain ⟨bk, ck, e, hbk, hH⟩ := hO.held (by rw [hKl.out]; decide)
      rw [hKl.out] at e
      injection e with e1 e2 e3
      subst e1 e3
      clear e2 hO hfill hM
      have o1 := (Own.empty wr wr.heap.size (Nat.le_refl _)).alloc (.cells #[] 5)
      have o2 := Own.empty (wr.alloc (.cells #[] 5)) wr.heap.size (by simp)
      have hH0 := (hH.alloc (.cells #[] 5)).alloc (.cells #[] 5)
      have hR0 := (hR.alloc (.cells #[] 5)).alloc (.cells #[] 5)
      have hw0 := (hw.alloc hz (.cells #[] 5)).alloc (by simp; omega) (.cells #[] 5)
      have hbw := hH.lt
      rw [World.size_alloc] at o2
      have hap : Apart (.slice (some ⟨wr.heap.size, 0, none⟩) 0 0) (.slice (some ⟨wr.heap.size + 1, 0, none⟩) 0 0) := by
        intro g h1 h2
        simp [Value.ownBlock] at h1 h2
        omega
      have hzz : wr.heap.size ≤ ((wr.alloc (.cells #[] 5)).alloc (.cells #[] 5)).heap.size := by simp; omega
      clear hH hR hw hlt0
      go_wp2
      generalize wr.heap.size = base at o1 o2 hzz hbw hz hzR hap ⊢
      go_loopw [7, 8, 9] (fun v1 v2 t V => ∃ i : Nat, i ≤ 64 ∧ t = .int .i64 i ∧ base ≤ V.heap.size ∧ Below w.heap.size w V ∧ Arr V w.heap.size z32 ∧ Held V bk c2 K ∧ Own V base v1 (turnB 54 (K.take i)) ∧ Own V base v2 (turnB 92 (K.take i)) ∧ Apart v1 v2) (fun _ _ t _ => 64 - (intOf t).toNat)
      case atStart => exact ⟨0, by omega, rfl, hzz, hw0, hR0, hH0, o1, o2, hap⟩
      case round =>
        clear hzz hw0 hR0 hH0 o1 o2 hap
        obtain ⟨i, hi, rfl, hzz, hw, hR, hH, o1, o2, hap⟩ := hrel
        have hzw := hw.size
        by_cases hil : i < 64
        · have hiK : i < K.length := by rw [hKl.out]; exact hil
          obtain ⟨y, hy⟩ : ∃ y, K[i] = y := ⟨_, rfl⟩
          have hcell : ∀ V, Held V bk c2 K → V.cell? ⟨bk, i, none⟩ = some (.int .u8 (y.toNat : Int)) := fun V h => by rw [← hy]; exact h.cell hiK
          have hc := hcell _ hH
          obtain ⟨p, hp⟩ : ∃ p, y ^^^ 54 = p := ⟨_, rfl⟩
          obtain ⟨q, hq⟩ : ∃ q, y ^^^ 92 = q := ⟨_, rfl⟩
          have E1 : bits BinOp.xor IntKind.u8 (y.toNat : Int) 54 = (p.toNat : Int) := by rw [← hp]; exact u8_xor y 54
          have E2 : bits BinOp.xor IntKind.u8 (y.toNat : Int) 92 = (q.toNat : Int) := by rw [← hq]; exact u8_xor y 92
          have n1 := turn_snoc 54 K i hiK
          have n2 := turn_snoc 92 K i hiK
          rw [hy, hp] at n1
          rw [hy, hq] at n2
          have k1 : Hid ((turnB 54 (K.take i)).length = i) := Lib.hid (by rw [turnB_len, List.length_take]; omega)
          have k2 : Hid ((turnB 92 (K.take i)).length = i) := Lib.hid (by rw [turnB_len, List.length_take]; omega)
          replace n1 := Lib.hid n1
          replace n2 := Lib.hid n2
          clear hy hp hq hiK
          go_wp2_with (at_builtin; refine wpList_append_own_any _ rfl (.tmp 34) (.tmp 40) rfl base _ (turnB 54 (K.take i)) rfl (o1.alloc _) (some ⟨wr.heap.size, 0, none⟩) 1 1 rfl [p] rfl (Held.lit wr [p] #[.int .u8 (p.toNat : Int)] rfl (by simp [maxLen])).seen (by rw [k1.out, List.length_singleton]; omega) (by simp; omega) ?_)
          intro v3 w3 h3 hg3 hat3
          have b3 := own_below (o1.alloc (.cells #[.int .u8 (p.toNat : Int)] 5)) (by simp; omega) hg3
          have o2a := (o2.alloc (.cells #[.int .u8 (p.toNat : Int)] 5)).grown hg3 hap.row
          have hap3 := hap.next (o2.alloc (.cells #[.int .u8 (p.toNat : Int)] 5)) (by rw [World.size_alloc]; exact hat3)
          have hw3 := (hw.alloc hzw (.cells #[.int .u8 (p.toNat : Int)] 5)).trans (b3.mono hz)
          have hR3 := (hR.alloc (.cells #[.int .u8 (p.toNat : Int)] 5)).below b3 (by omega)
          have hH3 := (hH.alloc (.cells #[.int .u8 (p.toNat : Int)] 5)).below b3 hbw
          have hz3 : base ≤ w3.heap.size := by have := b3.size; simp at this; omega
          rw [n1.out] at h3
          have hc3 := hcell _ hH3
          have hsz3 := hw3.size
          clear o1 o2 hg3 hat3 b3 hw hR hH hap hc hzz n1 k1 E1
          go_wp2_with (at_builtin; refine wpList_append_own_any _ rfl (.tmp 42) (.tmp 48) rfl base _ (turnB 92 (K.take i)) rfl (o2a.alloc _) (some ⟨w3.heap.size, 0, none⟩) 1 1 rfl [q] rfl (Held.lit w3 [q] #[.int .u8 (q.toNat : Int)] rfl (by simp [maxLen])).seen (by rw [k2.out, List.length_singleton]; omega) (by simp; omega) ?_)
          intro v4 w4 h4 hg4 hat4
          have b4 := own_below (o2a.alloc (.cells #[.int .u8 (q.toNat : Int)] 5)) (by simp; omega) hg4
          have o1a := (h3.alloc (.cells #[.int .u8 (q.toNat : Int)] 5)).grown hg4 hap3.symm.row
          have hap4 := hap3.symm.next (h3.alloc (.cells #[.int .u8 (q.toNat : Int)] 5)) (by rw [World.size_alloc]; exact hat4)
          have hw4 := (hw3.alloc hsz3 (.cells #[.int .u8 (q.toNat : Int)] 5)).trans (b4.mono hz)
          have hR4 := (hR3.alloc (.cells #[.int .u8 (q.toNat : Int)] 5)).below b4 (by omega)
          have hH4 := (hH3.alloc (.cells #[.int .u8 (q.toNat : Int)] 5)).below b4 hbw
          have hz4 : base ≤ w4.heap.size := by have := b4.size; simp at this; omega
          rw [n2.out] at h4
          clear h3 o2a hg4 hat4 b4 hw3 hR3 hH3 hap3 hc3 hz3 n2 k2 E2 hcell
          go_wp2
          go_roundw
          case rel => exact ⟨i + 1, by omega, by go_num, hz4, hw4, hR4, hH4, o1a, h4, hap4.symm⟩
          case measure => simp [intOf]; omega
        · obtain rfl : i = 64 := by omega
          have sl1 := sl.since hw
          have hTa := Lib.hid (turnB_len 54 K)
          have hTb := Lib.hid (turnB_len 92 K)
          rw [List.take_of_length_le (by rw [hKl.out]; exact Nat.le_refl _)] at o1 o2
          simp only [show ((64 : Nat) : Int) = 64 from rfl]
          clear hH hil hi sl
          go_wp2_with (at_builtin; refine wpList_append_own_any _ rfl (.tmp 50) (.tmp 51) rfl base _ (turnB 54 K) rfl o1 B m d rfl l hl.out sl1 (by rw [hTa.out, hKl.out, hl.out]; omega) hzz ?_)
          intro v3 w3 h3 hg3 hat3
          have b3 := own_below o1 hzz hg3
          have o2a := o2.grown hg3 hap.row
          have hw3 := hw.trans (b3.mono hz)
          have hR3 := hR.below b3 (by omega)
          have hz3 : base ≤ w3.heap.size := by have := b3.size; omega
          obtain ⟨B3, c3, rfl, hs3⟩ := h3.seen_at (k := 64 + m) (by rw [List.length_append, hTa.out, hKl.out, hl.out])
          clear o1 o2 hg3 hat3 b3 hw hR hap hzz sl1 h3
          go_wp2_with fail
          refine (rsum_at B3 (64 + m) c3 (turnB 54 K ++ l) _ (by rw [List.length_append, hTa.out, hKl.out, hl.out]) (by omega) hs3).mono ?_
          rintro e w4 ⟨rfl, hw4⟩
          obtain ⟨I, hIl, hI⟩ : ∃ I : List UInt8, I.length = 32 ∧ I = sumB (turnB 54 K ++ l) := ⟨_, sumB_len _, rfl⟩
          replace hIl := Lib.hid hIl
          rw [← hI]
          replace hI : Unit → I = sumB (turnB 54 K ++ l) := fun _ => hI
          have o2b := o2a.since hw4
          have hR4 := hR3.since hw4
          have hw4' := hw3.trans (hw4.mono hw3.size)
          have hz4 : base ≤ w4.heap.size := by have := hw4.size; omega
          have hzw4 := hw4'.size
          clear o2a hR3 hw3 hw4 hs3 hz3
          have hF0 := Arr.new w4 z32 25
          go_wp2_with (guard_target =~ wpList _ _ _ (Oper.mk _ (Op.store _ _ _) _ _ _ _ :: _) _ _; refine wpList_store_arr (cs' := vals I) 32 rfl rfl rfl rfl hF0 (by kernel_rfl) rfl (by rw [vals_len, hIl.out]) (vals_one _) ?_)
          intro w5 hI5 ho5 hb5 hs5
          have hR5 := (hR4.alloc (.cells z32.toArray 25)).of_block (ho5 _ (by omega))
          have o2c := (o2b.alloc (.cells z32.toArray 25)).of_block (fun g hg => ho5 g (by have := (o2b.lt hg).2; omega))
          have hw5 := (hw4'.alloc hzw4 (.cells z32.toArray 25)).trans (hb5.mono hzw4)
          have hz5 : base ≤ w5.heap.size := by have := hb5.size; rw [hs5]; simp; omega
          have hcut := cut32 w4.heap.size
          clear hF0 o2b hR4 hw4' ho5 hb5 hs5
          generalize w4.heap.size = j at hI5 hcut hz4 hzw4 ⊢
          go_wp2_with (at_builtin; refine wpList_append_own_any _ rfl (.tmp 54) (.tmp 55) rfl base _ (turnB 92 K) rfl o2c (some ⟨j, 0, none⟩) 32 32 rfl I hIl.out (Arr.seen hI5) (by rw [hTb.out, hKl.out, hIl.out]; decide) hz5 ?_)
          intro v6 w6 h6 hg6 hat6
          have b6 := own_below o2c hz5 hg6
          have hw6 := hw5.trans (b6.mono hz)
          have hR6 := hR5.below b6 (by omega)
          obtain ⟨B6, c6, rfl, hs6⟩ := h6.seen_at (k := 96) (by rw [List.length_append, hTb.out, hKl.out, hIl.out])
          clear o2c hg6 hat6 b6 hw5 hR5 h6 hI5 hcut
          go_wp2_with fail
          refine (rsum_at B6 96 c6 (turnB 92 K ++ I) _ (by rw [List.length_append, hTb.out, hKl.out, hIl.out]) (by decide) hs6).mono ?_
          rintro e w7 ⟨rfl, hw7⟩
          rw [hI (), hend ()]
          have hml := Lib.hid (macB_len k l)
          have hR7 := hR6.since hw7
          have hw7' := hw6.trans (hw7.mono hw6.size)
          clear hR6 hw6 hw7 hs6
          go_wp2_with (guard_target =~ wpList _ _ _ (Oper.mk _ (Op.store _ _ _) _ _ _ _ :: _) _ _; refine wpList_store_arr (cs' := vals (macB k l)) 32 rfl rfl rfl rfl hR7 (by kernel_rfl) rfl (by rw [vals_len, hml.out]) (vals_one _) ?_)
          intro w8 hR8 ho8 hb8 hs8
          have hw8 := hw7'.trans hb8
          clear hR7 hw7' ho8 hb8 hs8
          go_wp2
          exact ret_arr rfl w.heap.size _ _ rfl hR8 Tryd.underlying25 rfl (by rw [vals_len, hml.out]; kernel_rfl) rfl ⟨rfl, hw8⟩
set_option maxRecDepth 100000 in
set_option maxHeartbeats 4000000 in
theorem rof_long (A B : Option Addr) (n c m d : Nat) (k l : List UInt8) (w : World) (hk : k.length = n) (hl : l.length = m) (hn : n ≤ 1048576) (hm : m ≤ 1048000) (sk : Seen w A k) (sl : Seen w B l) (hlt0 : 64 < n) :
    Calls Tryd.prog 10 #[.slice A n c, .slice B m d] w fun e w' => e = .returned (.agg (vals (macB k l)).toArray) ∧ Below w.heap.size w w' := by
  have hw0 : Below w.heap.size w (w.alloc (.cells z32.toArray 25)) := by go_grown
  have hR0 := Arr.new w z32 25
  have sk0 := sk.since hw0
  obtain ⟨K, hKl, hKK⟩ : ∃ K : List UInt8, K.length = 64 ∧ K = keyB k := ⟨_, keyB_len k, rfl⟩
  replace hKl := Lib.hid hKl
  replace hl := Lib.hid hl
  have hend : Unit → sumB (turnB 92 K ++ sumB (turnB 54 K ++ l)) = macB k l := fun _ => by rw [hKK]; rfl
  have hfill : Unit → fillB (sumB k) = K := fun _ => by rw [hKK, keyB_long (by omega)]
  replace hk := Lib.hid hk
  have o0 := Own.empty (w.alloc (.cells z32.toArray 25)) (w.heap.size + 1) (by simp)
  rw [World.size_alloc] at o0
  have k0 := sk0.alloc (.cells #[] 5)
  replace hKK : Unit → K = keyB k := fun _ => hKK
  go_enter Tryd.func10, Tryd.ntmps10
  go_wp2_with (at_builtin; refine wpList_append_own_any _ rfl (.tmp 11) (.tmp 12) rfl (w.heap.size + 1) _ [] rfl o0 A n c rfl k hk.out k0 (by rw [hk.out, List.length_nil]; omega) (by simp) ?_)
  intro v1 w1 hO1 hg1 hat1
  try rw [List.nil_append] at hO1
  have hb1 : Below (w.heap.size + 1) (w.alloc (.cells z32.toArray 25)) w1 := ((Below.refl _ _).alloc (by simp) (.cells #[] 5)).grown hg1 (by simp) (by intro g hg; simp [Value.ownBlock] at hg; omega)
  have hR := hR0.below hb1 (Nat.lt_succ_self _)
  have hw := hw0.trans (hb1.mono (Nat.le_succ _))
  obtain ⟨B1, c1, rfl, hs1⟩ := hO1.seen_at (k := n) hk.out
  clear hR0 hw0 sk0 k0 o0 hg1 hat1 hb1
  clear sk
  go_wp2_with fail
  refine (rsum_at B1 n c1 k _ hk.out hn hs1).mono ?_
  rintro e w2 ⟨rfl, hw2⟩
  have hR2 := hR.since hw2
  have hw2' := hw.trans (hw2.mono hw.size)
  have hz2 := hw2'.size
  have hl2 := hR2.lt
  clear hR hw hw2 hs1 hO1
  obtain ⟨L, hLl, hLk⟩ : ∃ L : List UInt8, L.length = 32 ∧ L = sumB k := ⟨_, sumB_len _, rfl⟩
  replace hLl : Hid (L.length = 32) := Lib.hid hLl
  rw [← hLk] at hfill ⊢
  clear hLk
  have hF0 := Arr.new w2 z32 25
  go_wp2_with (guard_target =~ wpList _ _ _ (Oper.mk _ (Op.store _ _ _) _ _ _ _ :: _) _ _; refine wpList_store_arr (cs' := vals L) 32 rfl rfl rfl rfl hF0 (by kernel_rfl) rfl (by rw [vals_len, hLl.out]) (vals_one _) ?_)
  intro w3 hS3 ho3 hb3 hs3
  have hR3 := (hR2.alloc (.cells z32.toArray 25)).of_block (ho3 _ (by omega))
  have hw3 := (hw2'.alloc hz2 (.cells z32.toArray 25)).trans (hb3.mono hz2)
  have hz3 : w.heap.size + 1 ≤ w3.heap.size := by rw [hs3]; simp; omega
  have hcut := cut32 w2.heap.size
  clear hF0 hR2 hw2' ho3 hb3 hs3
  generalize w2.heap.size = jj at hS3 hcut hz2 hl2 ⊢
  have o3 := Own.empty w3 (w.heap.size + 1) hz3
  have s3 := (Arr.seen hS3).alloc (.cells #[] 5)
  go_wp2_with (at_builtin; refine wpList_append_own_any _ rfl (.tmp 19) (.tmp 20) rfl (w.heap.size + 1) _ [] rfl o3 (some ⟨jj, 0, none⟩) 32 32 rfl L hLl.out s3 (by rw [hLl.out]; decide) (by simp; omega) ?_)
  intro v4 w4 hO hg4 hat4
  try rw [List.nil_append] at hO
  have hb4 := own_below o3 (by simp; omega) hg4
  have hw := (hw3.alloc hw3.size (.cells #[] 5)).trans (hb4.mono (Nat.le_succ _))
  have hR := (hR3.alloc (.cells #[] 5)).below hb4 (Nat.lt_succ_self _)
  obtain ⟨B1, c1, rfl, hs4⟩ := hO.seen_at (k := 32) hLl.out
  clear o3 s3 hg4 hat4 hb4 hw3 hR3 hs4 hS3 hcut hk hn hlt0
  obtain ⟨N, hN, hlt0⟩ : ∃ N, N = 32 ∧ N ≤ 64 := ⟨32, rfl, by decide⟩
  rw [← hN] at hO hLl ⊢
  clear hN
  go_wp2
  have hz := hw.size
  have hzR := hR.lt
  go_loopw [5] (fun t V => ∃ (j m : Nat) (B : Option Addr) (c : Nat), N + j ≤ 64 ∧ m = N + j ∧ t = .slice B m c ∧ Below w.heap.size w V ∧ Arr V w.heap.size z32 ∧ Own V (w.heap.size + 1) (.slice B m c) (nl L j)) (fun t _ => match t with | .slice _ n _ => 64 - n | _ => 0)
  case atStart => exact ⟨0, N, B1, c1, by omega, rfl, rfl, hw, hR, by rw [nl_zero]; exact hO⟩
  case round =>
    clear hw hR hO hz hzR
    obtain ⟨j, M, B2, c2, hj, hM, rfl, hw, hR, hO⟩ := hrel
    have hz := hw.size
    have hzR := hR.lt
    have hLj := Lib.hid (nl_len L j)
    by_cases hjl : N + j < 64
    · have hM64 : M < 64 := by omega
      replace hM : Unit → M = N + j := fun _ => hM
      go_wp2_with (at_builtin; refine wpList_append_own_any _ rfl (.tmp 25) (.tmp 26) rfl (w.heap.size + 1) _ (nl L j) rfl (hO.alloc _) (some ⟨wr.heap.size, 0, none⟩) 1 1 rfl [0] rfl (Held.lit wr [0] #[.int .u8 0] rfl (by simp [maxLen])).seen (by rw [hLj.out, hLl.out, List.length_singleton]; omega) (by simp; omega) ?_)
      intro v3 w3 hO3 hg3 hat3
      have hb3 := own_below (hO.alloc (.cells #[.int .u8 0] 5)) (by simp; omega) hg3
      have hw3 := (hw.alloc hz (.cells #[.int .u8 0] 5)).trans (hb3.mono (Nat.le_succ _))
      have hR3 := (hR.alloc (.cells #[.int .u8 0] 5)).below hb3 (Nat.lt_succ_self _)
      rw [nl_step] at hO3
      obtain ⟨B3, c3, rfl, hs3⟩ := hO3.seen_at (k := M + 1) (by rw [nl_len, hLl.out, hM ()]; omega)
      clear hs3 hg3 hat3 hb3 hw hR hO
      go_wp2
      go_roundw
      case rel => exact ⟨j + 1, M + 1, B3, c3, by omega, by have := hM (); omega, rfl, hw3, hR3, hO3⟩
      case measure => simp only; omega
    · have hM64 : M = 64 := by omega
      have eK : nl L j = K := by
        rw [← hfill (), nl, fillB, show 64 - L.length = j by rw [hLl.out]; omega]
      rw [eK] at hO
      clear hLj eK
      subst hM64
      obtain ⟨bk, ck, e, hbk, hH⟩ := hO.held (by rw [hKl.out]; decide)
      rw [hKl.out] at e
      injection e with e1 e2 e3
      subst e1 e3
      clear e2 hO hfill hM
      have o1 := (Own.empty wr wr.heap.size (Nat.le_refl _)).alloc (.cells #[] 5)
      have o2 := Own.empty (wr.alloc (.cells #[] 5)) wr.heap.size (by simp)
      have hH0 := (hH.alloc (.cells #[] 5)).alloc (.cells #[] 5)
      have hR0 := (hR.alloc (.cells #[] 5)).alloc (.cells #[] 5)
      have hw0 := (hw.alloc hz (.cells #[] 5)).alloc (by simp; omega) (.cells #[] 5)
      have hbw := hH.lt
      rw [World.size_alloc] at o2
      have hap : Apart (.slice (some ⟨wr.heap.size, 0, none⟩) 0 0) (.slice (some ⟨wr.heap.size + 1, 0, none⟩) 0 0) := by
        intro g h1 h2
        simp [Value.ownBlock] at h1 h2
        omega
      have hzz : wr.heap.size ≤ ((wr.alloc (.cells #[] 5)).alloc (.cells #[] 5)).heap.size := by simp; omega
      clear hH hR hw hlt0
      go_wp2
      generalize wr.heap.size = base at o1 o2 hzz hbw hz hzR hap ⊢
      go_loopw [7, 8, 9] (fun v1 v2 t V => ∃ i : Nat, i ≤ 64 ∧ t = .int .i64 i ∧ base ≤ V.heap.size ∧ Below w.heap.size w V ∧ Arr V w.heap.size z32 ∧ Held V bk c2 K ∧ Own V base v1 (turnB 54 (K.take i)) ∧ Own V base v2 (turnB 92 (K.take i)) ∧ Apart v1 v2) (fun _ _ t _ => 64 - (intOf t).toNat)
      case atStart => exact ⟨0, by omega, rfl, hzz, hw0, hR0, hH0, o1, o2, hap⟩
      case round =>
        clear hzz hw0 hR0 hH0 o1 o2 hap
        obtain ⟨i, hi, rfl, hzz, hw, hR, hH, o1, o2, hap⟩ := hrel
        have hzw := hw.size
        by_cases hil : i < 64
        · have hiK : i < K.length := by rw [hKl.out]; exact hil
          obtain ⟨y, hy⟩ : ∃ y, K[i] = y := ⟨_, rfl⟩
          have hcell : ∀ V, Held V bk c2 K → V.cell? ⟨bk, i, none⟩ = some (.int .u8 (y.toNat : Int)) := fun V h => by rw [← hy]; exact h.cell hiK
          have hc := hcell _ hH
          obtain ⟨p, hp⟩ : ∃ p, y ^^^ 54 = p := ⟨_, rfl⟩
          obtain ⟨q, hq⟩ : ∃ q, y ^^^ 92 = q := ⟨_, rfl⟩
          have E1 : bits BinOp.xor IntKind.u8 (y.toNat : Int) 54 = (p.toNat : Int) := by rw [← hp]; exact u8_xor y 54
          have E2 : bits BinOp.xor IntKind.u8 (y.toNat : Int) 92 = (q.toNat : Int) := by rw [← hq]; exact u8_xor y 92
          have n1 := turn_snoc 54 K i hiK
          have n2 := turn_snoc 92 K i hiK
          rw [hy, hp] at n1
          rw [hy, hq] at n2
          have k1 : Hid ((turnB 54 (K.take i)).length = i) := Lib.hid (by rw [turnB_len, List.length_take]; omega)
          have k2 : Hid ((turnB 92 (K.take i)).length = i) := Lib.hid (by rw [turnB_len, List.length_take]; omega)
          replace n1 := Lib.hid n1
          replace n2 := Lib.hid n2
          clear hy hp hq hiK
          go_wp2_with (at_builtin; refine wpList_append_own_any _ rfl (.tmp 34) (.tmp 40) rfl base _ (turnB 54 (K.take i)) rfl (o1.alloc _) (some ⟨wr.heap.size, 0, none⟩) 1 1 rfl [p] rfl (Held.lit wr [p] #[.int .u8 (p.toNat : Int)] rfl (by simp [maxLen])).seen (by rw [k1.out, List.length_singleton]; omega) (by simp; omega) ?_)
          intro v3 w3 h3 hg3 hat3
          have b3 := own_below (o1.alloc (.cells #[.int .u8 (p.toNat : Int)] 5)) (by simp; omega) hg3
          have o2a := (o2.alloc (.cells #[.int .u8 (p.toNat : Int)] 5)).grown hg3 hap.row
          have hap3 := hap.next (o2.alloc (.cells #[.int .u8 (p.toNat : Int)] 5)) (by rw [World.size_alloc]; exact hat3)
          have hw3 := (hw.alloc hzw (.cells #[.int .u8 (p.toNat : Int)] 5)).trans (b3.mono hz)
          have hR3 := (hR.alloc (.cells #[.int .u8 (p.toNat : Int)] 5)).below b3 (by omega)
          have hH3 := (hH.alloc (.cells #[.int .u8 (p.toNat : Int)] 5)).below b3 hbw
          have hz3 : base ≤ w3.heap.size := by have := b3.size; simp at this; omega
          rw [n1.out] at h3
          have hc3 := hcell _ hH3
          have hsz3 := hw3.size
          clear o1 o2 hg3 hat3 b3 hw hR hH hap hc hzz n1 k1 E1
          go_wp2_with (at_builtin; refine wpList_append_own_any _ rfl (.tmp 42) (.tmp 48) rfl base _ (turnB 92 (K.take i)) rfl (o2a.alloc _) (some ⟨w3.heap.size, 0, none⟩) 1 1 rfl [q] rfl (Held.lit w3 [q] #[.int .u8 (q.toNat : Int)] rfl (by simp [maxLen])).seen (by rw [k2.out, List.length_singleton]; omega) (by simp; omega) ?_)
          intro v4 w4 h4 hg4 hat4
          have b4 := own_below (o2a.alloc (.cells #[.int .u8 (q.toNat : Int)] 5)) (by simp; omega) hg4
          have o1a := (h3.alloc (.cells #[.int .u8 (q.toNat : Int)] 5)).grown hg4 hap3.symm.row
          have hap4 := hap3.symm.next (h3.alloc (.cells #[.int .u8 (q.toNat : Int)] 5)) (by rw [World.size_alloc]; exact hat4)
          have hw4 := (hw3.alloc hsz3 (.cells #[.int .u8 (q.toNat : Int)] 5)).trans (b4.mono hz)
          have hR4 := (hR3.alloc (.cells #[.int .u8 (q.toNat : Int)] 5)).below b4 (by omega)
          have hH4 := (hH3.alloc (.cells #[.int .u8 (q.toNat : Int)] 5)).below b4 hbw
          have hz4 : base ≤ w4.heap.size := by have := b4.size; simp at this; omega
          rw [n2.out] at h4
          clear h3 o2a hg4 hat4 b4 hw3 hR3 hH3 hap3 hc3 hz3 n2 k2 E2 hcell
          go_wp2
          go_roundw
          case rel => exact ⟨i + 1, by omega, by go_num, hz4, hw4, hR4, hH4, o1a, h4, hap4.symm⟩
          case measure => simp [intOf]; omega
        · obtain rfl : i = 64 := by omega
          have sl1 := sl.since hw
          have hTa := Lib.hid (turnB_len 54 K)
          have hTb := Lib.hid (turnB_len 92 K)
          rw [List.take_of_length_le (by rw [hKl.out]; exact Nat.le_refl _)] at o1 o2
          simp only [show ((64 : Nat) : Int) = 64 from rfl]
          clear hH hil hi sl
          go_wp2_with (at_builtin; refine wpList_append_own_any _ rfl (.tmp 50) (.tmp 51) rfl base _ (turnB 54 K) rfl o1 B m d rfl l hl.out sl1 (by rw [hTa.out, hKl.out, hl.out]; omega) hzz ?_)
          intro v3 w3 h3 hg3 hat3
          have b3 := own_below o1 hzz hg3
          have o2a := o2.grown hg3 hap.row
          have hw3 := hw.trans (b3.mono hz)
          have hR3 := hR.below b3 (by omega)
          have hz3 : base ≤ w3.heap.size := by have := b3.size; omega
          obtain ⟨B3, c3, rfl, hs3⟩ := h3.seen_at (k := 64 + m) (by rw [List.length_append, hTa.out, hKl.out, hl.out])
          clear o1 o2 hg3 hat3 b3 hw hR hap hzz sl1 h3
          go_wp2_with fail
          refine (rsum_at B3 (64 + m) c3 (turnB 54 K ++ l) _ (by rw [List.length_append, hTa.out, hKl.out, hl.out]) (by omega) hs3).mono ?_
          rintro e w4 ⟨rfl, hw4⟩
          obtain ⟨I, hIl, hI⟩ : ∃ I : List UInt8, I.length = 32 ∧ I = sumB (turnB 54 K ++ l) := ⟨_, sumB_len _, rfl⟩
          replace hIl := Lib.hid hIl
          rw [← hI]
          replace hI : Unit → I = sumB (turnB 54 K ++ l) := fun _ => hI
          have o2b := o2a.since hw4
          have hR4 := hR3.since hw4
          have hw4' := hw3.trans (hw4.mono hw3.size)
          have hz4 : base ≤ w4.heap.size := by have := hw4.size; omega
          have hzw4 := hw4'.size
          clear o2a hR3 hw3 hw4 hs3 hz3
          have hF0 := Arr.new w4 z32 25
          go_wp2_with (guard_target =~ wpList _ _ _ (Oper.mk _ (Op.store _ _ _) _ _ _ _ :: _) _ _; refine wpList_store_arr (cs' := vals I) 32 rfl rfl rfl rfl hF0 (by kernel_rfl) rfl (by rw [vals_len, hIl.out]) (vals_one _) ?_)
          intro w5 hI5 ho5 hb5 hs5
          have hR5 := (hR4.alloc (.cells z32.toArray 25)).of_block (ho5 _ (by omega))
          have o2c := (o2b.alloc (.cells z32.toArray 25)).of_block (fun g hg => ho5 g (by have := (o2b.lt hg).2; omega))
          have hw5 := (hw4'.alloc hzw4 (.cells z32.toArray 25)).trans (hb5.mono hzw4)
          have hz5 : base ≤ w5.heap.size := by have := hb5.size; rw [hs5]; simp; omega
          have hcut := cut32 w4.heap.size
          clear hF0 o2b hR4 hw4' ho5 hb5 hs5
          generalize w4.heap.size = j at hI5 hcut hz4 hzw4 ⊢
          go_wp2_with (at_builtin; refine wpList_append_own_any _ rfl (.tmp 54) (.tmp 55) rfl base _ (turnB 92 K) rfl o2c (some ⟨j, 0, none⟩) 32 32 rfl I hIl.out (Arr.seen hI5) (by rw [hTb.out, hKl.out, hIl.out]; decide) hz5 ?_)
          intro v6 w6 h6 hg6 hat6
          have b6 := own_below o2c hz5 hg6
          have hw6 := hw5.trans (b6.mono hz)
          have hR6 := hR5.below b6 (by omega)
          obtain ⟨B6, c6, rfl, hs6⟩ := h6.seen_at (k := 96) (by rw [List.length_append, hTb.out, hKl.out, hIl.out])
          clear o2c hg6 hat6 b6 hw5 hR5 h6 hI5 hcut
          go_wp2_with fail
          refine (rsum_at B6 96 c6 (turnB 92 K ++ I) _ (by rw [List.length_append, hTb.out, hKl.out, hIl.out]) (by decide) hs6).mono ?_
          rintro e w7 ⟨rfl, hw7⟩
          rw [hI (), hend ()]
          have hml := Lib.hid (macB_len k l)
          have hR7 := hR6.since hw7
          have hw7' := hw6.trans (hw7.mono hw6.size)
          clear hR6 hw6 hw7 hs6
          go_wp2_with (guard_target =~ wpList _ _ _ (Oper.mk _ (Op.store _ _ _) _ _ _ _ :: _) _ _; refine wpList_store_arr (cs' := vals (macB k l)) 32 rfl rfl rfl rfl hR7 (by kernel_rfl) rfl (by rw [vals_len, hml.out]) (vals_one _) ?_)
          intro w8 hR8 ho8 hb8 hs8
          have hw8 := hw7'.trans hb8
          clear hR7 hw7' ho8 hb8 hs8
          go_wp2
          exact ret_arr rfl w.heap.size _ _ rfl hR8 Tryd.underlying25 rfl (by rw [vals_len, hml.out]; kernel_rfl) rfl ⟨rfl, hw8⟩
end Go.Proofs.YtcaeaejbccgpoaaDoor.mac
