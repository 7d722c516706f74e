/-
  THE CONTRACT OF seal's Nonce.
-/
import Derived.Test.YtmgfgbdfmdblhaaDoorSealLow
import Derived.Deep.RegionHeld3
namespace Go.Proofs.YtmgfgbdfmdblhaaDoor.sealed
open Go.RowKit Go.Proofs.YtmgfgbdfmdblhaaDoor.octets Go.Proofs.YtmgfgbdfmdblhaaDoor.sha Go.Proofs.YtmgfgbdfmdblhaaDoor.mac
set_option linter.unusedVariables false
set_option linter.unusedSimpArgs false

theorem parts2 {w : World} {pb n1 c1 n2 c2 : Nat} {A1 A2 : Option Addr} {l1 l2 : List UInt8} (p1 : w.cell? ⟨pb, 0, none⟩ = some (.slice A1 n1 c1)) (p2 : w.cell? ⟨pb, 1, none⟩ = some (.slice A2 n2 c2)) (h1 : l1.length = n1) (h2 : l2.length = n2) (s1 : Seen w A1 l1) (s2 : Seen w A2 l2) : Parts w pb [l1, l2] := by
  intro i h
  match i, h with
  | 0, _ => exact ⟨_, _, _, p1, h1, s1⟩
  | 1, _ => exact ⟨_, _, _, p2, h2, s2⟩
  | k + 2, h => exact absurd h (by simp)
theorem parts3 {w : World} {pb n1 c1 n2 c2 n3 c3 : Nat} {A1 A2 A3 : Option Addr} {l1 l2 l3 : List UInt8} (p1 : w.cell? ⟨pb, 0, none⟩ = some (.slice A1 n1 c1)) (p2 : w.cell? ⟨pb, 1, none⟩ = some (.slice A2 n2 c2)) (p3 : w.cell? ⟨pb, 2, none⟩ = some (.slice A3 n3 c3)) (h1 : l1.length = n1) (h2 : l2.length = n2) (h3 : l3.length = n3) (s1 : Seen w A1 l1) (s2 : Seen w A2 l2) (s3 : Seen w A3 l3) : Parts w pb [l1, l2, l3] := by
  intro i h
  match i, h with
  | 0, _ => exact ⟨_, _, _, p1, h1, s1⟩
  | 1, _ => exact ⟨_, _, _, p2, h2, s2⟩
  | 2, _ => exact ⟨_, _, _, p3, h3, s3⟩
  | k + 3, h => exact absurd h (by simp)
theorem cells_of (w : World) (cs : List Value) (t : TypeId) (i : Nat) (v : Value) (h : cs[i]? = some v) : (w.alloc (.cells cs.toArray t)).cell? ⟨w.heap.size, i, none⟩ = some v := (Arr.new w cs t).cell h
set_option maxRecDepth 100000 in
set_option maxHeartbeats 1000000 in
theorem nonce_ok (A : Option Addr) (n c : Nat) (k : List UInt8) (s m : Int) (w : World) (hk : k.length = n) (hc : n ≤ c) (hn : n ≤ 1048576) (sk : Seen w A k) (hK : Table w) :
    Calls Tryd.prog 13 #[.slice A n c, .int .i64 s, .int .i64 m] w fun e w' => e = .returned (.agg (vals (nonceB k s m)).toArray) ∧ Below w.heap.size w w' := by
  have hw0 : Below w.heap.size w (w.alloc (.cells z8b.toArray 29)) := by go_grown
  have hR0 := Arr.new w z8b 29
  have hz8 : Hid (z8b.length = 8) := Lib.hid rfl
  obtain ⟨T, hT⟩ : ∃ T, nonceB k s m = T := ⟨_, rfl⟩
  rw [hT]
  have htl : Hid (T.length = 8) := Lib.hid (by rw [← hT]; exact tagB_len _ _)
  have htk : Unit → tagB k (78 :: [[u8i s], octs 4 (low32 m)].flatten) = T := fun _ => hT
  clear hT
  replace hk := Lib.hid hk
  go_enter Tryd.func13, Tryd.ntmps13
  go_wp2_with fail
  (with_reducible refine (low_1 s _).mono ?_)
  rintro e w1 ⟨b1, rfl, hb1, hs1, hw1⟩
  have hR1 := hR0.since hw1
  have hw1' := hw0.trans (hw1.mono hw0.size)
  clear hR0 hw0 hw1 hb1
  go_wp2_with fail
  (with_reducible refine (low_4 m _).mono ?_)
  rintro e w2 ⟨b2, rfl, hb2, hs2, hw2⟩
  have hR2 := hR1.since hw2
  have hs1' := hs1.since hw2
  have hw2' := hw1'.trans (hw2.mono hw1'.size)
  clear hR1 hw1' hw2 hs1 hb2
  have hb3 : Below w2.heap.size w2 (w2.alloc (.cells #[.slice (some ⟨b1, 0, none⟩) 1 1, .slice (some ⟨b2, 0, none⟩) 4 4] 23)) := (Below.refl _ _).alloc (Nat.le_refl _) _
  have hP := parts2 (two_first w2 (.slice (some ⟨b1, 0, none⟩) 1 1) (.slice (some ⟨b2, 0, none⟩) 4 4) 23 (0, 0)) (two_second w2 (.slice (some ⟨b1, 0, none⟩) 1 1) (.slice (some ⟨b2, 0, none⟩) 4 4) 23 (0, 0)) rfl (octs_len _ _) (hs1'.since hb3) (hs2.since hb3)
  have hR3 := hR2.since hb3
  have hw3 := hw2'.trans (hb3.mono hw2'.size)
  go_wp2_with fail
  refine (joined_ok 78 78 rfl w2.heap.size 2 2 [[u8i s], octs 4 (low32 m)] _ rfl (by decide) (by simp [octs_len]) hP (by simp)).mono ?_
  rintro e w4 ⟨v4, rfl, ho4, hw4⟩
  obtain ⟨B, d, rfl, hs4⟩ := ho4.seen_at (k := 6) (by simp [octs_len])
  have hR4 := hR3.since hw4
  have hw4' := hw3.trans (hw4.mono hw3.size)
  have hK4 := hK.since hw4'
  have sk4 := sk.since hw4'
  clear hR2 hw2' hs1' hs2 hb3 hP hR3 hw3 hw4 ho4
  go_wp2_with fail
  refine (tag_ok A B n c 6 d k (78 :: [[u8i s], octs 4 (low32 m)].flatten) _ hk.out (by simp [octs_len]) hn (by decide) sk4 hs4 hK4).mono ?_
  rintro e w5 ⟨rfl, hw5⟩
  rw [htk ()]
  have hR5 := hR4.since hw5
  have hw5' := hw4'.trans (hw5.mono hw4'.size)
  clear hR4 hw4' hw5 hK4 sk4 hs4
  go_wp2_with (guard_target =~ wpList _ _ _ (Oper.mk _ (Op.store _ _ _) _ _ _ _ :: _) _ _; refine wpList_store_arr (cs' := vals T) 8 rfl rfl rfl rfl hR5 (by kernel_rfl) hz8.out (by rw [vals_len, htl.out]) (vals_one _) ?_)
  intro w6 hR6 ho6 hb6 hs6
  have hw6 := hw5'.trans hb6
  clear hR5 hw5' ho6 hb6 hs6
  go_wp2
  exact ret_arr rfl w.heap.size _ _ rfl hR6 Tryd.underlying29 rfl (by rw [vals_len, htl.out]; kernel_rfl) rfl ⟨rfl, hw6⟩
end Go.Proofs.YtmgfgbdfmdblhaaDoor.sealed
