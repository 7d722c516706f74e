/-
  THE WALK OF 'MacMade': what is summed are the key, filled up and turned, with the bytes behind it; and the key, turned otherwise, with that sum behind it.
-/
import Derived.Test.YtcaeaejbccgpoaaDoorMacSame
import Derived.Test.YtcaeaejbccgpoaaDoorMacRef
import Derived.StillTailTactics
import Derived.Deep.RegionHeld3
namespace Go.Proofs.YtcaeaejbccgpoaaDoor.walks
open Go.ChangeShapes Go.WideShapes Go.ChangeAt Go.RowKit Go.Proofs.YtcaeaejbccgpoaaDoor.octets Go.Proofs.YtcaeaejbccgpoaaDoor.sha Go.Proofs.YtcaeaejbccgpoaaDoor.mac Go.Proofs.YtcaeaejbccgpoaaDoor.given
set_option linter.unusedVariables false
set_option linter.unusedSimpArgs false

set_option maxRecDepth 100000 in
set_option maxHeartbeats 4000000 in
theorem made_core (a b : Option Addr) (n cap m capb : Nat) (x y : List UInt8) (p q : Nat) (w : World) (hr : Seen w a x) (hrb : Seen w b y) (hp : p = min n 64) (hlp : x.length = p) (hc : n ≤ cap) (hq : q = min m 150) (hlq : y.length = q) (hcb : m ≤ capb) (hK : Table w) :
    Calls Tryd.prog 6 #[.slice a n cap, .slice b m capb] w fun e w' => e = .returned (.bool true) ∧ Below w.heap.size w w' := by
  have hp3 : p ≤ 64 := by omega
  have hq3 : q ≤ 150 := by omega
  obtain ⟨M, hM⟩ : ∃ M, macB x y = M := ⟨_, rfl⟩
  have q1 := same32 M (by rw [← hM, macB_len])
  have hMl : Hid (M.length = 32) := Lib.hid (by rw [← hM, macB_len])
  obtain ⟨K, hKl, hKK⟩ : ∃ K : List UInt8, K.length = 64 ∧ K = fillB x := ⟨_, fillB_len (by omega), rfl⟩
  replace hKl := Lib.hid hKl
  have hend : Unit → sumB (turnB 92 K ++ sumB (turnB 54 K ++ y)) = M := fun _ => by rw [hKK, ← keyB_short (k := x) (by omega)]; exact hM
  replace hKK : Unit → K = fillB x := fun _ => hKK
  replace hM : Unit → macB x y = M := fun _ => hM
  have em : min (n : Int) 64 = (p : Int) := by omega
  have hcut := slice_h a n cap p (by omega)
  replace hp := Lib.hid hp
  replace hlp := Lib.hid hlp
  replace hq := Lib.hid hq
  replace hlq := Lib.hid hlq
  go_enter Tryd.func6, Tryd.ntmps6
  try dsimp only [List.append]
  go_wp2_with fail
  (with_reducible refine (shown_any _ hK).mono ?_)
  rintro e w1 ⟨rfl, hw1⟩
  have hz1 := hw1.size
  have hF0 := Arr.new w1 zb64 33
  have hall := cut_all w1.heap.size
  go_wp2_with (guard_target =~ wpList _ _ _ (Oper.mk _ (Op.store 33 _ _) _ _ _ _ :: _) _ _; refine wpList_store_arr (cs' := zb64) 64 rfl rfl rfl rfl hF0 (by kernel_rfl) (by simp [zb64]) (by simp [zb64]) zb64_one ?_)
  intro w2 hX2 ho2 hb2 hs2
  have hw2 := (hw1.alloc hz1 (.cells zb64.toArray 33)).trans (hb2.mono hz1)
  have hr2 := hr.since hw2
  clear hF0 hw1 ho2 hb2 hs2
  generalize w1.heap.size = g at hX2 hz1 hall ⊢
  go_wp2_with fail
  go_still_tail 6, (by kernel_rfl)
  change wpList _ _ _ _ _ w2.drew
  have hX3 := hX2.drew
  have hw3 := hw2.drew
  have hr3 : Seen w2.drew a x := hr2
  clear hX2 hw2 hr2 hall
  generalize w2.drew = V at hX3 hw3 hr3 ⊢
  refine wpList_copy_key _ rfl (.tmp 14) (.tmp 19) rfl g a p cap rfl rfl hX3 x hlp.out hp3 hr3 ?_
  intro w4 hX4 hb4
  rw [← hKK ()] at hX4
  have hw4 := hw3.trans (hb4.mono hz1)
  clear hX3 hw3 hr3 hb4
  have o1 := (Own.empty w4 w4.heap.size (Nat.le_refl _)).alloc (.cells #[] 5)
  have o2 := Own.empty (w4.alloc (.cells #[] 5)) w4.heap.size (by simp)
  have hX0 := (hX4.alloc (.cells #[] 5)).alloc (.cells #[] 5)
  have hz4 := hw4.size
  have hw0 := (hw4.alloc hz4 (.cells #[] 5)).alloc (by simp; omega) (.cells #[] 5)
  have hgw := hX4.lt
  rw [World.size_alloc] at o2
  have hap : Apart (.slice (some ⟨w4.heap.size, 0, none⟩) 0 0) (.slice (some ⟨w4.heap.size + 1, 0, none⟩) 0 0) := by
    intro g h1 h2
    simp [Value.ownBlock] at h1 h2
    omega
  have hzz : w4.heap.size ≤ ((w4.alloc (.cells #[] 5)).alloc (.cells #[] 5)).heap.size := by simp; omega
  clear hX4 hw4
  go_wp2
  generalize w4.heap.size = base at o1 o2 hzz hgw hz4 hap ⊢
  go_loopw [7, 8, 9] (fun v1 v2 t V => ∃ i : Nat, i ≤ 64 ∧ t = .int .i64 i ∧ base ≤ V.heap.size ∧ Below w.heap.size w V ∧ Arr V g (vals K) ∧ Own V base v1 (turnB 54 (K.take i)) ∧ Own V base v2 (turnB 92 (K.take i)) ∧ Apart v1 v2) (fun _ _ t _ => 64 - (intOf t).toNat)
  case atStart => exact ⟨0, by omega, rfl, hzz, hw0, hX0, o1, o2, hap⟩
  case round =>
    clear hzz hw0 hX0 o1 o2 hap
    obtain ⟨i, hi, rfl, hzz, hw, hH, o1, o2, hap⟩ := hrel
    have hzw := hw.size
    by_cases hil : i < 64
    · have hiK : i < K.length := by rw [hKl.out]; exact hil
      obtain ⟨y, hy⟩ : ∃ y, K[i] = y := ⟨_, rfl⟩
      have hcell : ∀ V, Arr V g (vals K) → V.cell? ⟨g, i, none⟩ = some (.int .u8 (y.toNat : Int)) := fun V h => by rw [← hy]; exact h.cell (vals_get hiK)
      have hc := hcell _ hH
      obtain ⟨p, hp⟩ : ∃ p, y ^^^ 54 = p := ⟨_, rfl⟩
      obtain ⟨q, hq⟩ : ∃ q, y ^^^ 92 = q := ⟨_, rfl⟩
      have E1 : bits BinOp.xor IntKind.u8 (y.toNat : Int) 54 = (p.toNat : Int) := by rw [← hp]; exact Go.Proofs.YtcaeaejbccgpoaaDoor.mac.u8_xor y 54
      have E2 : bits BinOp.xor IntKind.u8 (y.toNat : Int) 92 = (q.toNat : Int) := by rw [← hq]; exact Go.Proofs.YtcaeaejbccgpoaaDoor.mac.u8_xor y 92
      have n1 := turn_snoc 54 K i hiK
      have n2 := turn_snoc 92 K i hiK
      rw [hy, hp] at n1
      rw [hy, hq] at n2
      have k1 : Hid ((turnB 54 (K.take i)).length = i) := Lib.hid (by rw [turnB_len, List.length_take]; omega)
      have k2 : Hid ((turnB 92 (K.take i)).length = i) := Lib.hid (by rw [turnB_len, List.length_take]; omega)
      replace n1 := Lib.hid n1
      replace n2 := Lib.hid n2
      clear hy hp hq hiK em hcut
      go_wp2_with (at_builtin; refine wpList_append_own_any _ rfl (.tmp 27) (.tmp 32) rfl base _ (turnB 54 (K.take i)) rfl (o1.alloc _) (some ⟨wr.heap.size, 0, none⟩) 1 1 rfl [p] rfl (Held.lit wr [p] #[.int .u8 (p.toNat : Int)] rfl (by simp [maxLen])).seen (by rw [k1.out, List.length_singleton]; omega) (by simp; omega) ?_)
      intro v3 w3 h3 hg3 hat3
      have b3 := own_below (o1.alloc (.cells #[.int .u8 (p.toNat : Int)] 5)) (by simp; omega) hg3
      have o2a := (o2.alloc (.cells #[.int .u8 (p.toNat : Int)] 5)).grown hg3 hap.row
      have hap3 := hap.next (o2.alloc (.cells #[.int .u8 (p.toNat : Int)] 5)) (by rw [World.size_alloc]; exact hat3)
      have hw3 := (hw.alloc hzw (.cells #[.int .u8 (p.toNat : Int)] 5)).trans (b3.mono hz4)
      have hH3 := (hH.alloc (.cells #[.int .u8 (p.toNat : Int)] 5)).below b3 hgw
      have hz3 : base ≤ w3.heap.size := by have := b3.size; simp at this; omega
      rw [n1.out] at h3
      have hc3 := hcell _ hH3
      have hsz3 := hw3.size
      clear o1 o2 hg3 hat3 b3 hw hH hap hc hzz n1 k1 E1
      go_wp2_with (at_builtin; refine wpList_append_own_any _ rfl (.tmp 34) (.tmp 39) rfl base _ (turnB 92 (K.take i)) rfl (o2a.alloc _) (some ⟨w3.heap.size, 0, none⟩) 1 1 rfl [q] rfl (Held.lit w3 [q] #[.int .u8 (q.toNat : Int)] rfl (by simp [maxLen])).seen (by rw [k2.out, List.length_singleton]; omega) (by simp; omega) ?_)
      intro v4 w4 h4 hg4 hat4
      have b4 := own_below (o2a.alloc (.cells #[.int .u8 (q.toNat : Int)] 5)) (by simp; omega) hg4
      have o1a := (h3.alloc (.cells #[.int .u8 (q.toNat : Int)] 5)).grown hg4 hap3.symm.row
      have hap4 := hap3.symm.next (h3.alloc (.cells #[.int .u8 (q.toNat : Int)] 5)) (by rw [World.size_alloc]; exact hat4)
      have hw4 := (hw3.alloc hsz3 (.cells #[.int .u8 (q.toNat : Int)] 5)).trans (b4.mono hz4)
      have hH4 := (hH3.alloc (.cells #[.int .u8 (q.toNat : Int)] 5)).below b4 hgw
      have hz5 : base ≤ w4.heap.size := by have := b4.size; simp at this; omega
      rw [n2.out] at h4
      clear h3 o2a hg4 hat4 b4 hw3 hH3 hap3 hc3 hz3 n2 k2 E2 hcell
      go_wp2
      go_roundw
      case rel => exact ⟨i + 1, by omega, by go_num, hz5, hw4, hH4, o1a, h4, hap4.symm⟩
      case measure => simp [intOf]; omega
    · obtain rfl : i = 64 := by omega
      have sl1 := hrb.since hw
      have sk1 := hr.since hw
      have hT1 := hK.since hw
      have hTa := Lib.hid (turnB_len 54 K)
      have hTb := Lib.hid (turnB_len 92 K)
      rw [List.take_of_length_le (by rw [hKl.out]; exact Nat.le_refl _)] at o1 o2
      simp only [show ((64 : Nat) : Int) = 64 from rfl]
      clear hH hil hi
      go_wp2_with fail
      (with_reducible refine (few_ok b m capb q _ hcb hq.out).mono ?_)
      rintro e w' ⟨rfl, rfl⟩
      go_wp2_with (at_builtin; refine wpList_append_own_any _ rfl (.tmp 43) (.tmp 44) rfl base _ (turnB 54 K) rfl o1 b q capb rfl y hlq.out sl1 (by rw [hTa.out, hKl.out, hlq.out]; omega) hzz ?_)
      intro v3 w3 h3 hg3 hat3
      have b3 := own_below o1 hzz hg3
      have o2a := o2.grown hg3 hap.row
      have hw3 := hw.trans (b3.mono hz4)
      have hz3 : base ≤ w3.heap.size := by have := b3.size; omega
      have hT3 := hK.since hw3
      obtain ⟨B3, c3, rfl, hs3⟩ := h3.seen_at (k := 64 + q) (by rw [List.length_append, hTa.out, hKl.out, hlq.out])
      clear o1 o2 hg3 hat3 b3 hw hap hzz sl1 sk1 hT1 h3
      go_wp2_with fail
      refine (sum_at B3 (64 + q) c3 (turnB 54 K ++ y) _ (by rw [List.length_append, hTa.out, hKl.out, hlq.out]) (by omega) hs3 hT3).mono ?_
      rintro e w4 ⟨rfl, hw4⟩
      obtain ⟨I, hIl, hI⟩ : ∃ I : List UInt8, I.length = 32 ∧ I = sumB (turnB 54 K ++ y) := ⟨_, sumB_len _, rfl⟩
      replace hIl := Lib.hid hIl
      rw [← hI]
      replace hI : Unit → I = sumB (turnB 54 K ++ y) := fun _ => hI
      have o2b := o2a.since hw4
      have hw4' := hw3.trans (hw4.mono hw3.size)
      have hz6 : base ≤ w4.heap.size := by have := hw4.size; omega
      have hzw4 := hw4'.size
      clear o2a hw3 hw4 hs3 hz3 hT3
      have hF0 := Arr.new w4 z32 25
      go_wp2_with (guard_target =~ wpList _ _ _ (Oper.mk _ (Op.store _ _ _) _ _ _ _ :: _) _ _; refine wpList_store_arr (cs' := vals I) 32 rfl rfl rfl rfl hF0 (by kernel_rfl) rfl (by rw [vals_len, hIl.out]) (vals_one _) ?_)
      intro w5 hI5 ho5 hb5 hs5
      have o2c := (o2b.alloc (.cells z32.toArray 25)).of_block (fun g hg => ho5 g (by have := (o2b.lt hg).2; omega))
      have hw5 := (hw4'.alloc hzw4 (.cells z32.toArray 25)).trans (hb5.mono hzw4)
      have hz5 : base ≤ w5.heap.size := by have := hb5.size; rw [hs5]; simp; omega
      have hcut2 := cut32 w4.heap.size
      clear hF0 o2b hw4' ho5 hb5 hs5
      generalize w4.heap.size = j at hI5 hcut2 hz6 hzw4 ⊢
      go_wp2_with fail
      have dw := hw5.drew
      have dr : Seen w5.drew a x := hr.since dw
      have dl : Seen w5.drew b y := hrb.since dw
      have dT : Table w5.drew := hK.since dw
      have dI := hI5.drew
      have dO : Own w5.drew base _ (turnB 92 K) := o2c
      have dz : base ≤ w5.drew.heap.size := hz5
      clear hI5 o2c hw5 hz5
      refine wp_region_held_drew (S := fun _ => True) (by kernel_rfl) True.intro (fun _ => ?_)
      refine wpAnyH_take (i := 0) (oi := Oper.mk (some 47) _ _ _ _ _) (v := ?_) rfl (by kernel_rfl) (by kernel_rfl) (by kernel_rfl) (fun _ _ _ h => h) (Or.inl ⟨by rfl, ?_⟩) True.intro ?_
      rotate_left
      · intro w hSw
        go_simp
        try with_reducible rfl
      simp only [Act.put, List.setIfInBounds_toArray, List.set_cons_zero, List.set_cons_succ]
      try dsimp only
      refine wpAnyH_take (i := 1) (oi := Oper.mk (some 48) _ _ _ _ _) (v := ?_) rfl (by kernel_rfl) (by kernel_rfl) (by kernel_rfl) (fun _ _ _ h => h) (Or.inl ⟨by rfl, ?_⟩) True.intro ?_
      rotate_left
      · intro w hSw
        go_simp
        try with_reducible rfl
      simp only [Act.put, List.setIfInBounds_toArray, List.set_cons_zero, List.set_cons_succ]
      try dsimp only
      refine wpAnyH_take (i := 2) (oi := Oper.mk (some 49) _ _ _ _ _) (v := ?_) rfl (by kernel_rfl) (by kernel_rfl) (by kernel_rfl) (fun _ _ _ h => h) (Or.inl ⟨by rfl, ?_⟩) True.intro ?_
      rotate_left
      · intro w hSw
        go_simp
        try with_reducible rfl
      simp only [Act.put, List.setIfInBounds_toArray, List.set_cons_zero, List.set_cons_succ]
      try dsimp only
      refine wpAnyH_take (i := 3) (oi := Oper.mk (some 50) _ _ _ _ _) (v := ?_) rfl (by kernel_rfl) (by kernel_rfl) (by kernel_rfl) (fun _ _ _ h => h) (Or.inl ⟨by rfl, ?_⟩) True.intro ?_
      rotate_left
      · intro w hSw
        go_simp
        try with_reducible rfl
      simp only [Act.put, List.setIfInBounds_toArray, List.set_cons_zero, List.set_cons_succ]
      try dsimp only
      refine wpAnyH_take (i := 4) (oi := Oper.mk (some 51) _ _ _ _ _) (v := ?_) rfl (by kernel_rfl) (by kernel_rfl) (by kernel_rfl) (fun _ _ _ h => h) (Or.inl ⟨by rfl, ?_⟩) True.intro ?_
      rotate_left
      · intro w hSw
        go_simp
        try with_reducible rfl
      simp only [Act.put, List.setIfInBounds_toArray, List.set_cons_zero, List.set_cons_succ]
      try dsimp only
      refine wpAnyH_take (i := 5) (oi := Oper.mk (some 52) _ _ _ _ _) (v := ?_) rfl (by kernel_rfl) (by kernel_rfl) (by kernel_rfl) (fun _ _ _ h => h) (Or.inl ⟨by rfl, ?_⟩) True.intro ?_
      rotate_left
      · intro w hSw
        go_simp
        try with_reducible rfl
      simp only [Act.put, List.setIfInBounds_toArray, List.set_cons_zero, List.set_cons_succ]
      try dsimp only
      refine wpAnyH_take (i := 6) (oi := Oper.mk (some 53) _ _ _ _ _) (v := ?_) rfl (by kernel_rfl) (by kernel_rfl) (by kernel_rfl) (fun _ _ _ h => h) (Or.inl ⟨by rfl, ?_⟩) True.intro ?_
      rotate_left
      · intro w hSw
        go_simp
        try with_reducible rfl
      simp only [Act.put, List.setIfInBounds_toArray, List.set_cons_zero, List.set_cons_succ]
      try dsimp only
      refine wpAnyH_take (i := 7) (oi := Oper.mk (some 54) _ _ _ _ _) (v := ?_) rfl (by kernel_rfl) (by kernel_rfl) (by kernel_rfl) (fun _ _ _ h => h) (Or.inl ⟨by rfl, ?_⟩) True.intro ?_
      rotate_left
      · intro w hSw
        go_simp
        try with_reducible rfl
      simp only [Act.put, List.setIfInBounds_toArray, List.set_cons_zero, List.set_cons_succ]
      try dsimp only
      refine wpAnyH_take (i := 9) (oi := Oper.mk (some 56) _ _ _ _ _) (v := ?_) rfl (by kernel_rfl) (by kernel_rfl) (by kernel_rfl) (fun _ _ _ h => h) (Or.inl ⟨by rfl, ?_⟩) True.intro ?_
      rotate_left
      · intro w hSw
        go_simp
        try with_reducible rfl
      simp only [Act.put, List.setIfInBounds_toArray, List.set_cons_zero, List.set_cons_succ]
      try dsimp only
      refine wpAnyH_take (i := 10) (oi := Oper.mk (some 57) _ _ _ _ _) (v := ?_) rfl (by kernel_rfl) (by kernel_rfl) (by kernel_rfl) (fun _ _ _ h => h) (Or.inl ⟨by rfl, ?_⟩) True.intro ?_
      rotate_left
      · intro w hSw
        go_simp
        try with_reducible rfl
      simp only [Act.put, List.setIfInBounds_toArray, List.set_cons_zero, List.set_cons_succ]
      try dsimp only
      refine wpAnyH_ready (rs := [8]) (by kernel_rfl) (by simp) ?_
      refine AllReadyH.cons rfl (fun F hF => ?_) AllReadyH.nil
      go_simp
      (with_reducible refine (of_at a b p cap q capb x y M _ hlp.out hlq.out (by omega) hq3 dr dl (hM ()) dT).mono ?_)
      rintro e wa ⟨rfl, ha⟩
      have aw := dw.trans (ha.mono dw.size)
      have aT := hK.since aw
      have aI := dI.since ha
      have aO := dO.since ha
      have az : base ≤ wa.heap.size := by have := ha.size; omega
      clear dr dl dT dI dO dw dz ha
      dsimp only
      refine hF.out _ _ True.intro (fun _ => ?_)
      clear hF F
      refine wpAnyH_ready (rs := [11]) (by kernel_rfl) (by simp) ?_
      refine AllReadyH.cons rfl (fun F hF => ?_) AllReadyH.nil
      rw [if_pos (by rfl)]
      obtain ⟨v6, w6, hrun, h6, hg6, hat6⟩ := append_own wa base 22 _ (turnB 92 K) aO (some ⟨j, 0, none⟩) I 32 (Arr.seen aI) (by rw [hTb.out, hKl.out, hIl.out]; decide) az
      rw [hIl.out] at hrun
      refine Lib.wp_append_run wa _ _ _ _ rfl _ _ rfl rfl v6 w6 hrun ?_
      have b6 := own_below aO az hg6
      have bw := aw.trans (b6.mono hz4)
      have bT := hK.since bw
      obtain ⟨B6, c6, rfl, hs6⟩ := h6.seen_at (k := 96) (by rw [List.length_append, hTb.out, hKl.out, hIl.out])
      clear aT aI aO az aw hg6 hat6 b6 h6 hrun
      simp only [Act.put, List.setIfInBounds_toArray, List.set_cons_zero, List.set_cons_succ]
      refine hF.out _ _ True.intro (fun _ => ?_)
      clear hF F
      refine wpAnyH_ready (rs := [12]) (by kernel_rfl) (by simp) ?_
      refine AllReadyH.cons rfl (fun F hF => ?_) AllReadyH.nil
      go_simp
      refine (sum_at B6 96 c6 (turnB 92 K ++ I) _ (by rw [List.length_append, hTb.out, hKl.out, hIl.out]) (by decide) hs6 bT).mono ?_
      rintro e w7 ⟨rfl, hw7⟩
      rw [hI (), hend ()]
      have cw := bw.trans (hw7.mono bw.size)
      clear bw bT hs6 hw7
      dsimp only
      refine hF.out _ _ True.intro (fun _ => ?_)
      clear hF F
      refine wpAnyH_take (i := 13) (oi := Oper.mk (some 60) _ _ _ _ _) (v := ?_) rfl (by kernel_rfl) (by kernel_rfl) (by kernel_rfl) (fun _ _ _ h => h) (Or.inl ⟨by rfl, ?_⟩) True.intro ?_
      rotate_left
      · intro w hSw
        go_simp
        try with_reducible rfl
      simp only [Act.put, List.setIfInBounds_toArray, List.set_cons_zero, List.set_cons_succ]
      try dsimp only
      refine wpAnyH_take (i := 14) (oi := Oper.mk (some 61) _ _ _ _ _) (v := ?_) rfl (by kernel_rfl) (by kernel_rfl) (by kernel_rfl) (fun _ _ _ h => h) (Or.inl ⟨by rfl, ?_⟩) True.intro ?_
      rotate_left
      · intro w hSw
        go_simp
        try with_reducible rfl
      simp only [Act.put, List.setIfInBounds_toArray, List.set_cons_zero, List.set_cons_succ]
      try dsimp only
      refine wpAnyH_take (i := 15) (oi := Oper.mk (some 4) _ _ _ _ _) (v := ?_) rfl (by kernel_rfl) (by kernel_rfl) (by kernel_rfl) (fun _ _ _ h => h) (Or.inl ⟨by rfl, ?_⟩) True.intro ?_
      rotate_left
      · intro w hSw
        go_simp
        try with_reducible rfl
      simp only [Act.put, List.setIfInBounds_toArray, List.set_cons_zero, List.set_cons_succ]
      try dsimp only
      refine wpAnyH_done (by kernel_rfl) ?_ _
      go_wp2
      go_ret
      exact ⟨rfl, cw⟩

theorem macMade (a : Option Addr) (len cap : Nat) (z : List Int) (b : Option Addr) (lenb capb : Nat) (zb : List Int) (w : World) (w0 : Nums .u8 w a len cap z) (w1 : Nums .u8 w b lenb capb zb) (hL : laidMet Tryd.prog [("sidestick/sha.roots", Rows.laid_sidestick_sha_roots)] w) :
    Calls Tryd.prog 6 #[.slice a len cap, .slice b lenb capb] w fun e w' => e = .returned (.bool true) ∧ Below w.heap.size w w' := by
  obtain ⟨l, rfl, hl, hcap⟩ := seen_nums w0
  obtain ⟨m, rfl, hm, hcapb⟩ := seen_nums w1
  exact made_core a b _ cap _ capb (l.take 64) (m.take 150) (min l.length 64) (min m.length 150) w (hl.take 64) (hm.take 150) rfl (by simp; omega) hcap rfl (by simp; omega) hcapb (table_of hL)
end Go.Proofs.YtcaeaejbccgpoaaDoor.walks
