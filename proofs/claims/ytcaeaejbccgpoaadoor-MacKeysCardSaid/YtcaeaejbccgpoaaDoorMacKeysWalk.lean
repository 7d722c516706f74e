/-
  THE WALK OF 'MacKeys': a long key is as good as its sum, and one with noughts behind it as it is without them.
-/
import Derived.Test.YtcaeaejbccgpoaaDoorMacSame
import Derived.Test.YtcaeaejbccgpoaaDoorMacRef
import Derived.Deep.RegionHeld3
namespace Go.Proofs.YtcaeaejbccgpoaaDoor.walks
open Go.ChangeShapes Go.WideShapes Go.ChangeAt Go.RowKit Go.Proofs.YtcaeaejbccgpoaaDoor.octets Go.Proofs.YtcaeaejbccgpoaaDoor.sha Go.Proofs.YtcaeaejbccgpoaaDoor.mac Go.Proofs.YtcaeaejbccgpoaaDoor.given
set_option linter.unusedVariables false
set_option linter.unusedSimpArgs false

theorem u8_came {n : Int} (h : (Lit.int .u8 n).wf = true) : ∃ s : Nat, n = s ∧ s < 256 := by
  have hb : 0 ≤ n ∧ n ≤ 255 := by simpa [Lit.wf, IntKind.min, IntKind.max, IntKind.signed, IntKind.bits] using h
  exact ⟨n.toNat, by omega, by omega⟩
set_option maxRecDepth 100000 in
set_option maxHeartbeats 2000000 in
theorem keys_long (a b : Option Addr) (n cap m capb : Nat) (x y : List UInt8) (p q r : Nat) (w : World) (hr : Seen w a x) (hrb : Seen w b y) (hp : p = min n 150) (hlp : x.length = p) (hc : n ≤ cap) (hq : q = min m 150) (hlq : y.length = q) (hcb : m ≤ capb) (hr8 : r < 256) (hlt : 64 < p) (hK : Table w) :
    Calls Tryd.prog 4 #[.slice a n cap, .slice b m capb, .int .u8 (r : Int)] w fun e w' => e = .returned (.bool true) ∧ Below w.heap.size w w' := by
  have hp3 : p ≤ 150 := by omega
  have hq3 : q ≤ 150 := by omega
  obtain ⟨M, hM⟩ : ∃ M, macB x y = M := ⟨_, rfl⟩
  have q1 := same32 M (by rw [← hM, macB_len])
  have hM2 : Unit → macB (sumB x) y = M := fun _ => by rw [macB_sum y (by omega)]; exact hM
  replace hM : Unit → macB x y = M := fun _ => hM
  replace hp := Lib.hid hp
  replace hlp := Lib.hid hlp
  replace hq := Lib.hid hq
  replace hlq := Lib.hid hlq
  go_enter Tryd.func4, Tryd.ntmps4
  try dsimp only [List.append]
  go_wp2_with fail
  (with_reducible refine (shown_any _ hK).mono ?_)
  rintro e w1 ⟨rfl, hw1⟩
  go_wp2_with fail
  (with_reducible refine (few_ok a n cap p _ hc hp.out).mono ?_)
  rintro e w' ⟨rfl, rfl⟩
  go_wp2_with fail
  (with_reducible refine (few_ok b m capb q _ hcb hq.out).mono ?_)
  rintro e w' ⟨rfl, rfl⟩
  have hx1 := hr.since hw1
  have hK1 := hK.since hw1
  go_wp2_with fail
  (with_reducible refine (sum_at a p cap x _ hlp.out (by omega) hx1 hK1).mono ?_)
  rintro e w2 ⟨rfl, hs2⟩
  have hw2 := hw1.trans (hs2.mono hw1.size)
  have hz2 := hw2.size
  obtain ⟨D, hDl, hD⟩ : ∃ D : List UInt8, D.length = 32 ∧ D = sumB x := ⟨_, sumB_len _, rfl⟩
  replace hDl := Lib.hid hDl
  rw [← hD] at hM2 ⊢
  clear hx1 hK1 hw1 hs2 hD
  have hF0 := Arr.new w2 z32 25
  go_wp2_with (guard_target =~ wpList _ _ _ (Oper.mk _ (Op.store 25 _ _) _ _ _ _ :: _) _ _; refine wpList_store_arr (cs' := vals D) 32 rfl rfl rfl rfl hF0 (by kernel_rfl) rfl (by rw [vals_len, hDl.out]) (vals_one _) ?_)
  intro w3 hD3 ho3 hb3 hs3
  have hw3 := (hw2.alloc hz2 (.cells z32.toArray 25)).trans (hb3.mono hz2)
  have hcut := cut32 w2.heap.size
  clear hF0 hw2 ho3 hb3 hs3
  generalize w2.heap.size = g at hD3 hcut hz2 ⊢
  go_wp2_with fail
  have dw := hw3.drew
  have dx : Seen w3.drew a x := hr.since dw
  have dy : Seen w3.drew b y := hrb.since dw
  have dT : Table w3.drew := hK.since dw
  have dD := hD3.drew
  clear hD3 hw3
  refine wp_region_held_drew (S := fun _ => True) (by kernel_rfl) True.intro (fun _ => ?_)
  refine wpAnyH_take (i := 0) (oi := Oper.mk (some 23) _ _ _ _ _) (v := ?_) rfl (by kernel_rfl) (by kernel_rfl) (by kernel_rfl) (fun _ _ _ h => h) (Or.inl ⟨by rfl, ?_⟩) True.intro ?_
  rotate_left
  · intro w hSw
    go_simp
    try with_reducible rfl
  simp only [Act.put, List.setIfInBounds_toArray, List.set_cons_zero, List.set_cons_succ]
  try dsimp only
  refine wpAnyH_take (i := 1) (oi := Oper.mk (some 24) _ _ _ _ _) (v := ?_) rfl (by kernel_rfl) (by kernel_rfl) (by kernel_rfl) (fun _ _ _ h => h) (Or.inl ⟨by rfl, ?_⟩) True.intro ?_
  rotate_left
  · intro w hSw
    go_simp
    try with_reducible rfl
  simp only [Act.put, List.setIfInBounds_toArray, List.set_cons_zero, List.set_cons_succ]
  try dsimp only
  refine wpAnyH_take (i := 2) (oi := Oper.mk (some 25) _ _ _ _ _) (v := ?_) rfl (by kernel_rfl) (by kernel_rfl) (by kernel_rfl) (fun _ _ _ h => h) (Or.inl ⟨by rfl, ?_⟩) True.intro ?_
  rotate_left
  · intro w hSw
    go_simp
    try with_reducible rfl
  simp only [Act.put, List.setIfInBounds_toArray, List.set_cons_zero, List.set_cons_succ]
  try dsimp only
  refine wpAnyH_take (i := 3) (oi := Oper.mk (some 26) _ _ _ _ _) (v := ?_) rfl (by kernel_rfl) (by kernel_rfl) (by kernel_rfl) (fun _ _ _ h => h) (Or.inl ⟨by rfl, ?_⟩) True.intro ?_
  rotate_left
  · intro w hSw
    go_simp
    try with_reducible rfl
  simp only [Act.put, List.setIfInBounds_toArray, List.set_cons_zero, List.set_cons_succ]
  try dsimp only
  refine wpAnyH_take (i := 5) (oi := Oper.mk (some 28) _ _ _ _ _) (v := ?_) rfl (by kernel_rfl) (by kernel_rfl) (by kernel_rfl) (fun _ _ _ h => h) (Or.inl ⟨by rfl, ?_⟩) True.intro ?_
  rotate_left
  · intro w hSw
    go_simp
    try with_reducible rfl
  simp only [Act.put, List.setIfInBounds_toArray, List.set_cons_zero, List.set_cons_succ]
  try dsimp only
  refine wpAnyH_take (i := 6) (oi := Oper.mk (some 29) _ _ _ _ _) (v := ?_) rfl (by kernel_rfl) (by kernel_rfl) (by kernel_rfl) (fun _ _ _ h => h) (Or.inl ⟨by rfl, ?_⟩) True.intro ?_
  rotate_left
  · intro w hSw
    go_simp
    try with_reducible rfl
  simp only [Act.put, List.setIfInBounds_toArray, List.set_cons_zero, List.set_cons_succ]
  try dsimp only
  refine wpAnyH_ready (rs := [4]) (by kernel_rfl) (by simp) ?_
  refine AllReadyH.cons rfl (fun F hF => ?_) AllReadyH.nil
  go_simp
  (with_reducible refine (of_at a b p cap q capb x y M _ hlp.out hlq.out hp3 hq3 dx dy (hM ()) dT).mono ?_)
  rintro e wa ⟨rfl, ha⟩
  have aw := dw.trans (ha.mono dw.size)
  have aT := hK.since aw
  have ay := hrb.since aw
  have aD := dD.since ha
  clear dx dy dT dD dw ha
  dsimp only
  refine hF.out _ _ True.intro (fun _ => ?_)
  clear hF F
  refine wpAnyH_ready (rs := [7]) (by kernel_rfl) (by simp) ?_
  refine AllReadyH.cons rfl (fun F hF => ?_) AllReadyH.nil
  go_simp
  (with_reducible refine (of_at (some ⟨g, 0, none⟩) b 32 32 q capb D y M _ hDl.out hlq.out (by decide) hq3 (Arr.seen aD) ay (hM2 ()) aT).mono ?_)
  rintro e wb ⟨rfl, hb⟩
  have bw := aw.trans (hb.mono aw.size)
  clear aT ay aD aw hb
  dsimp only
  refine hF.out _ _ True.intro (fun _ => ?_)
  clear hF F
  refine wpAnyH_take (i := 8) (oi := Oper.mk (some 31) _ _ _ _ _) (v := ?_) rfl (by kernel_rfl) (by kernel_rfl) (by kernel_rfl) (fun _ _ _ h => h) (Or.inl ⟨by rfl, ?_⟩) True.intro ?_
  rotate_left
  · intro w hSw
    go_simp
    try with_reducible rfl
  simp only [Act.put, List.setIfInBounds_toArray, List.set_cons_zero, List.set_cons_succ]
  try dsimp only
  refine wpAnyH_take (i := 9) (oi := Oper.mk (some 32) _ _ _ _ _) (v := ?_) rfl (by kernel_rfl) (by kernel_rfl) (by kernel_rfl) (fun _ _ _ h => h) (Or.inl ⟨by rfl, ?_⟩) True.intro ?_
  rotate_left
  · intro w hSw
    go_simp
    try with_reducible rfl
  simp only [Act.put, List.setIfInBounds_toArray, List.set_cons_zero, List.set_cons_succ]
  try dsimp only
  refine wpAnyH_take (i := 10) (oi := Oper.mk (some 6) _ _ _ _ _) (v := ?_) rfl (by kernel_rfl) (by kernel_rfl) (by kernel_rfl) (fun _ _ _ h => h) (Or.inl ⟨by rfl, ?_⟩) True.intro ?_
  rotate_left
  · intro w hSw
    go_simp
    try with_reducible rfl
  simp only [Act.put, List.setIfInBounds_toArray, List.set_cons_zero, List.set_cons_succ]
  try dsimp only
  refine wpAnyH_done (by kernel_rfl) ?_ _
  go_wp2
  go_ret
  exact ⟨rfl, bw⟩
set_option maxRecDepth 100000 in
set_option maxHeartbeats 2000000 in
theorem keys_short (a b : Option Addr) (n cap m capb : Nat) (x y : List UInt8) (p q r : Nat) (w : World) (hr : Seen w a x) (hrb : Seen w b y) (hp : p = min n 150) (hlp : x.length = p) (hc : n ≤ cap) (hq : q = min m 150) (hlq : y.length = q) (hcb : m ≤ capb) (hr8 : r < 256) (hlt : p ≤ 64) (hK : Table w) :
    Calls Tryd.prog 4 #[.slice a n cap, .slice b m capb, .int .u8 (r : Int)] w fun e w' => e = .returned (.bool true) ∧ Below w.heap.size w w' := by
  have hp3 : p ≤ 150 := by omega
  have hq3 : q ≤ 150 := by omega
  obtain ⟨M, hM⟩ : ∃ M, macB x y = M := ⟨_, rfl⟩
  have q1 := same32 M (by rw [← hM, macB_len])
  obtain ⟨T, hT⟩ : ∃ T, tagB x y = T := ⟨_, rfl⟩
  have q2 := same8 T (by rw [← hT, tagB_len])
  replace hT : Unit → tagB x y = T := fun _ => hT
  replace hM : Unit → macB x y = M := fun _ => hM
  replace hp := Lib.hid hp
  replace hlp := Lib.hid hlp
  replace hq := Lib.hid hq
  replace hlq := Lib.hid hlq
  go_enter Tryd.func4, Tryd.ntmps4
  try dsimp only [List.append]
  go_wp2_with fail
  (with_reducible refine (shown_any _ hK).mono ?_)
  rintro e w1 ⟨rfl, hw1⟩
  go_wp2_with fail
  (with_reducible refine (few_ok a n cap p _ hc hp.out).mono ?_)
  rintro e w' ⟨rfl, rfl⟩
  go_wp2_with fail
  (with_reducible refine (few_ok b m capb q _ hcb hq.out).mono ?_)
  rintro e w' ⟨rfl, rfl⟩
  have hx1 := hr.since hw1
  have hK1 := hK.since hw1
  have o0 := Own.empty w1 w.heap.size hw1.size
  have hx1' := hx1.alloc (.cells #[] 5)
  have hz1 := hw1.size
  go_wp2_with (at_builtin; refine wpList_append_own_any _ rfl (.tmp 33) (.tmp 34) rfl w.heap.size _ [] rfl o0 a p cap rfl x hlp.out hx1' (by rw [hlp.out, List.length_nil]; omega) (by simp; omega) ?_)
  intro v2 w2 hO2 hg2 hat2
  try rw [List.nil_append] at hO2
  have hb2 := own_below o0 (by simp; omega) hg2
  have hw2 := (hw1.alloc hz1 (.cells #[] 5)).trans hb2
  obtain ⟨B2, c2, rfl, hs2⟩ := hO2.seen_at (k := p) hlp.out
  clear o0 hx1' hg2 hat2 hb2 hs2 hw1 hx1 hK1
  go_wp2
  go_loopw [11, 12] (fun s t V => ∃ (i k : Nat) (B : Option Addr) (c : Nat), i ≤ r ∧ k ≤ 64 ∧ k = p + i ∧ t = .int .i64 i ∧ s = .slice B k c ∧ Below w.heap.size w V ∧ Own V w.heap.size (.slice B k c) (nl x i)) (fun _ t _ => r - (intOf t).toNat)
  case atStart => exact ⟨0, p, B2, c2, by omega, hlt, by omega, rfl, rfl, hw2, by rw [nl_zero]; exact hO2⟩
  case round =>
    clear hw2 hO2
    obtain ⟨i, k, B, c, hir, hk64, hk, rfl, rfl, hw, hO⟩ := hrel
    by_cases h1 : i < r
    · by_cases h2 : k < 64
      · have hz := hw.size
        have hnl := Lib.hid (nl_len x i)
        replace hk : Unit → k = p + i := fun _ => hk
        go_wp2_with (at_builtin; refine wpList_append_own_any _ rfl (.tmp 47) (.tmp 48) rfl w.heap.size _ (nl x i) rfl (hO.alloc _) (some ⟨wr.heap.size, 0, none⟩) 1 1 rfl [0] rfl (Held.lit wr [0] #[.int .u8 0] rfl (by simp [maxLen])).seen (by rw [hnl.out, hlp.out, List.length_singleton]; omega) (by simp; omega) ?_)
        intro v3 w3 hO3 hg3 hat3
        have hb3 := own_below (hO.alloc (.cells #[.int .u8 0] 5)) (by simp; omega) hg3
        have hw3 := (hw.alloc hz (.cells #[.int .u8 0] 5)).trans hb3
        rw [nl_step] at hO3
        obtain ⟨B3, c3, rfl, hs3⟩ := hO3.seen_at (k := k + 1) (by rw [nl_len, hlp.out, hk ()]; omega)
        clear hs3 hg3 hat3 hb3 hw hO hnl
        go_wp2
        go_roundw
        case rel => exact ⟨i + 1, k + 1, B3, c3, by omega, by omega, by have := hk (); omega, by go_num, rfl, hw3, hO3⟩
        case measure => simp [intOf]; omega
      · have hM2 : Unit → macB (nl x i) y = M := fun _ => by rw [← hM (), nl]; exact macB_noughts x y i (by rw [hlp.out]; omega)
        have hT2 : Unit → tagB (nl x i) y = T := fun _ => by rw [← hT (), tagB, tagB, hM2 (), hM ()]
        obtain ⟨N, hN⟩ : ∃ N, N = nl x i := ⟨_, rfl⟩
        have hNl : Hid (N.length = k) := Lib.hid (by rw [hN, nl_len, hlp.out]; omega)
        have hk3 : k ≤ 150 := by omega
        rw [← hN] at hO hM2 hT2
        have hb0 := hO.seen_at hNl.out
        obtain ⟨B', c', e, sN⟩ := hb0
        injection e with e1 e2 e3
        subst e1 e3
        clear e2 hN
        have base1 := hw.size
        have sx := hr.since hw
        have sy := hrb.since hw
        have sT := hK.since hw
        replace hk : Unit → k = p + i := fun _ => hk
        go_wp2_with fail
        (with_reducible refine (of_at a b p cap q capb x y M _ hlp.out hlq.out hp3 hq3 sx sy (hM ()) sT).mono ?_)
        rintro e w5 ⟨rfl, hs5⟩
        have sN5 := sN.since hs5
        have hw5 := hw.trans (hs5.mono base1)
        have sx5 := hr.since hw5
        have sy5 := hrb.since hw5
        have sT5 := hK.since hw5
        clear sN sx sy sT hs5 hw hO
        go_wp2_with fail
        (with_reducible refine (of_at B b k c q capb N y M _ hNl.out hlq.out hk3 hq3 sN5 sy5 (hM2 ()) sT5).mono ?_)
        rintro e w6 ⟨rfl, hs6⟩
        have sN6 := sN5.since hs6
        have hw6 := hw5.trans (hs6.mono hw5.size)
        have sx6 := hr.since hw6
        have sy6 := hrb.since hw6
        have sT6 := hK.since hw6
        clear sN5 sx5 sy5 sT5 hs6 hw5
        go_wp2_with fail
        (with_reducible refine (tag_at a b p cap q capb x y T _ hlp.out hlq.out hp3 hq3 sx6 sy6 (hT ()) sT6).mono ?_)
        rintro e w7 ⟨rfl, hs7⟩
        have sN7 := sN6.since hs7
        have hw7 := hw6.trans (hs7.mono hw6.size)
        have sy7 := hrb.since hw7
        have sT7 := hK.since hw7
        clear sN6 sx6 sy6 sT6 hs7 hw6
        go_wp2_with fail
        (with_reducible refine (tag_at B b k c q capb N y T _ hNl.out hlq.out hk3 hq3 sN7 sy7 (hT2 ()) sT7).mono ?_)
        rintro e w8 ⟨rfl, hs8⟩
        have hw8 := hw7.trans (hs8.mono hw7.size)
        clear sN7 sy7 sT7 hs8 hw7
        go_wp2
        go_ret
        exact ⟨rfl, hw8⟩
    · have hM2 : Unit → macB (nl x i) y = M := fun _ => by rw [← hM (), nl]; exact macB_noughts x y i (by rw [hlp.out]; omega)
      have hT2 : Unit → tagB (nl x i) y = T := fun _ => by rw [← hT (), tagB, tagB, hM2 (), hM ()]
      obtain ⟨N, hN⟩ : ∃ N, N = nl x i := ⟨_, rfl⟩
      have hNl : Hid (N.length = k) := Lib.hid (by rw [hN, nl_len, hlp.out]; omega)
      have hk3 : k ≤ 150 := by omega
      rw [← hN] at hO hM2 hT2
      have hb0 := hO.seen_at hNl.out
      obtain ⟨B', c', e, sN⟩ := hb0
      injection e with e1 e2 e3
      subst e1 e3
      clear e2 hN
      have base1 := hw.size
      have sx := hr.since hw
      have sy := hrb.since hw
      have sT := hK.since hw
      replace hk : Unit → k = p + i := fun _ => hk
      go_wp2_with fail
      (with_reducible refine (of_at a b p cap q capb x y M _ hlp.out hlq.out hp3 hq3 sx sy (hM ()) sT).mono ?_)
      rintro e w5 ⟨rfl, hs5⟩
      have sN5 := sN.since hs5
      have hw5 := hw.trans (hs5.mono base1)
      have sx5 := hr.since hw5
      have sy5 := hrb.since hw5
      have sT5 := hK.since hw5
      clear sN sx sy sT hs5 hw hO
      go_wp2_with fail
      (with_reducible refine (of_at B b k c q capb N y M _ hNl.out hlq.out hk3 hq3 sN5 sy5 (hM2 ()) sT5).mono ?_)
      rintro e w6 ⟨rfl, hs6⟩
      have sN6 := sN5.since hs6
      have hw6 := hw5.trans (hs6.mono hw5.size)
      have sx6 := hr.since hw6
      have sy6 := hrb.since hw6
      have sT6 := hK.since hw6
      clear sN5 sx5 sy5 sT5 hs6 hw5
      go_wp2_with fail
      (with_reducible refine (tag_at a b p cap q capb x y T _ hlp.out hlq.out hp3 hq3 sx6 sy6 (hT ()) sT6).mono ?_)
      rintro e w7 ⟨rfl, hs7⟩
      have sN7 := sN6.since hs7
      have hw7 := hw6.trans (hs7.mono hw6.size)
      have sy7 := hrb.since hw7
      have sT7 := hK.since hw7
      clear sN6 sx6 sy6 sT6 hs7 hw6
      go_wp2_with fail
      (with_reducible refine (tag_at B b k c q capb N y T _ hNl.out hlq.out hk3 hq3 sN7 sy7 (hT2 ()) sT7).mono ?_)
      rintro e w8 ⟨rfl, hs8⟩
      have hw8 := hw7.trans (hs8.mono hw7.size)
      clear sN7 sy7 sT7 hs8 hw7
      go_wp2
      go_ret
      exact ⟨rfl, hw8⟩
theorem macKeys (a : Option Addr) (len cap : Nat) (z : List Int) (b : Option Addr) (lenb capb : Nat) (zb : List Int) (a2 : Int) (w : World) (w0 : Nums .u8 w a len cap z) (w1 : Nums .u8 w b lenb capb zb) (w2 : (Lit.int .u8 a2).wf = true) (hL : laidMet Tryd.prog [("sidestick/sha.roots", Rows.laid_sidestick_sha_roots)] w) :
    Calls Tryd.prog 4 #[.slice a len cap, .slice b lenb capb, .int .u8 a2] w fun e w' => e = .returned (.bool true) ∧ Below w.heap.size w w' := by
  obtain ⟨l, rfl, hl, hcap⟩ := seen_nums w0
  obtain ⟨m, rfl, hm, hcapb⟩ := seen_nums w1
  obtain ⟨r, rfl, hr⟩ := u8_came w2
  by_cases h : 64 < min l.length 150
  · exact keys_long a b _ cap _ capb (l.take 150) (m.take 150) (min l.length 150) (min m.length 150) r w (hl.take 150) (hm.take 150) rfl (by simp; omega) hcap rfl (by simp; omega) hcapb hr h (table_of hL)
  · exact keys_short a b _ cap _ capb (l.take 150) (m.take 150) (min l.length 150) (min m.length 150) r w (hl.take 150) (hm.take 150) rfl (by simp; omega) hcap rfl (by simp; omega) hcapb hr (by omega) (table_of hL)
end Go.Proofs.YtcaeaejbccgpoaaDoor.walks
