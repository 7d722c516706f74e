/-
  THE WALK OF 'MacTags': a tag is the beginning of what the key tells; two rows of bytes are the same just if all are.
-/
import Derived.Test.YtcaeaejbccgpoaaDoorMacSame
import Derived.Deep.RegionHeld3
namespace Go.Proofs.YtcaeaejbccgpoaaDoor.walks
open Go.ChangeShapes Go.WideShapes Go.ChangeAt Go.RowKit Go.Proofs.YtcaeaejbccgpoaaDoor.octets Go.Proofs.YtcaeaejbccgpoaaDoor.sha Go.Proofs.YtcaeaejbccgpoaaDoor.mac Go.Proofs.YtcaeaejbccgpoaaDoor.given
set_option linter.unusedVariables false
set_option linter.unusedSimpArgs false

set_option maxRecDepth 100000 in
set_option maxHeartbeats 1000000 in
theorem tags_core (a b d : Option Addr) (n cap m capb r capd : Nat) (x y z : List UInt8) (p q s : Nat) (w : World) (hx : Seen w a x) (hy : Seen w b y) (hz : Seen w d z) (hp : p = min n 150) (hlp : x.length = p) (hc : n ≤ cap) (hq : q = min m 150) (hlq : y.length = q) (hcb : m ≤ capb) (hs : s = min r 150) (hls : z.length = s) (hcd : r ≤ capd) (hK : Table w) :
    Calls Tryd.prog 5 #[.slice a n cap, .slice b m capb, .slice d r capd] w fun e w' => e = .returned (.bool true) ∧ Below w.heap.size w w' := by
  have hp3 : p ≤ 150 := by omega
  have hq3 : q ≤ 150 := by omega
  have hs3 : s ≤ 150 := by omega
  obtain ⟨M, hM⟩ : ∃ M, macB x y = M := ⟨_, rfl⟩
  obtain ⟨T, hT⟩ : ∃ T, tagB x y = T := ⟨_, rfl⟩
  have hMl : Hid (M.length = 32) := Lib.hid (by rw [← hM, macB_len])
  have hTl : Hid (T.length = 8) := Lib.hid (by rw [← hT, tagB_len])
  have hTM : Unit → T = M.take 8 := fun _ => by rw [← hT, ← hM]; rfl
  replace hM : Unit → macB x y = M := fun _ => hM
  replace hT : Unit → tagB x y = T := fun _ => hT
  replace hp := Lib.hid hp
  replace hlp := Lib.hid hlp
  replace hq := Lib.hid hq
  replace hlq := Lib.hid hlq
  replace hs := Lib.hid hs
  replace hls := Lib.hid hls
  have hz8 : Hid (z8b.length = 8) := Lib.hid rfl
  go_enter Tryd.func5, Tryd.ntmps5
  try dsimp only [List.append]
  go_wp2_with fail
  (with_reducible refine (shown_any _ hK).mono ?_)
  rintro e w1 ⟨rfl, hw1⟩
  go_wp2_with fail
  (with_reducible refine (few_ok a n cap p _ hc hp.out).mono ?_)
  rintro e w' ⟨rfl, rfl⟩
  go_wp2_with fail
  (with_reducible refine (few_ok b m capb q _ hcb hq.out).mono ?_)
  rintro e w' ⟨rfl, rfl⟩
  go_wp2_with fail
  (with_reducible refine (few_ok d r capd s _ hcd hs.out).mono ?_)
  rintro e w' ⟨rfl, rfl⟩
  have hx1 := hx.since hw1
  have hy1 := hy.since hw1
  have hK1 := hK.since hw1
  go_wp2_with fail
  (with_reducible refine (of_at a b p cap q capb x y M _ hlp.out hlq.out hp3 hq3 hx1 hy1 (hM ()) hK1).mono ?_)
  rintro e w2 ⟨rfl, hs2⟩
  have hw2 := hw1.trans (hs2.mono hw1.size)
  have hz2 := hw2.size
  clear hx1 hy1 hK1 hw1 hs2
  have hF0 := Arr.new w2 z32 25
  go_wp2_with (guard_target =~ wpList _ _ _ (Oper.mk _ (Op.store 25 _ _) _ _ _ _ :: _) _ _; refine wpList_store_arr (cs' := vals M) 32 rfl rfl rfl rfl hF0 (by kernel_rfl) rfl (by rw [vals_len, hMl.out]) (vals_one _) ?_)
  intro w3 hM3 ho3 hb3 hs3'
  have hw3 := (hw2.alloc hz2 (.cells z32.toArray 25)).trans (hb3.mono hz2)
  clear hF0 hw2 ho3 hb3 hs3'
  generalize w2.heap.size = g at hM3 hz2 ⊢
  have hx3 := hx.since hw3
  have hy3 := hy.since hw3
  have hK3 := hK.since hw3
  go_wp2_with fail
  (with_reducible refine (tag_at a b p cap q capb x y T _ hlp.out hlq.out hp3 hq3 hx3 hy3 (hT ()) hK3).mono ?_)
  rintro e w4 ⟨rfl, hs4⟩
  have hw4 := hw3.trans (hs4.mono hw3.size)
  have hM4 := hM3.since hs4
  have hz4 := hw4.size
  have hlt4 := hM4.lt
  clear hx3 hy3 hK3 hw3 hs4 hM3
  have hF0 := Arr.new w4 z8b 27
  go_wp2_with (guard_target =~ wpList _ _ _ (Oper.mk _ (Op.store 27 _ _) _ _ _ _ :: _) _ _; refine wpList_store_arr (cs' := vals T) 8 rfl rfl rfl rfl hF0 (by kernel_rfl) rfl (by rw [vals_len, hTl.out]) (vals_one _) ?_)
  intro w5 hT5 ho5 hb5 hs5
  have hM5 := (hM4.alloc (.cells z8b.toArray 27)).of_block (ho5 _ (by omega))
  have hw5 := (hw4.alloc hz4 (.cells z8b.toArray 27)).trans (hb5.mono hz4)
  clear hF0 hM4 hw4 ho5 hb5 hs5
  generalize w4.heap.size = t at hT5 hz4 hlt4 ⊢
  go_wp2
  go_loopw [13] (fun t' V => ∃ (i k : Nat), i ≤ 8 ∧ t' = .int .i64 i ∧ V = w5.drewN k) (fun t _ => 8 - (intOf t).toNat)
  case atStart => exact ⟨0, 0, by omega, rfl, rfl⟩
  case round =>
    obtain ⟨i, k, hi, rfl, rfl⟩ := hrel
    by_cases hil : i < 8
    · obtain ⟨u, hu⟩ : ∃ u, T[i]? = some u := ⟨_, List.getElem?_eq_getElem (by rw [hTl.out]; exact hil)⟩
      have hu2 : M[i]? = some u := by rw [hTM (), List.getElem?_take_of_lt hil] at hu; exact hu
      obtain ⟨W, hW⟩ : ∃ W, w5.drewN k = W := ⟨_, rfl⟩
      have c1 : ∀ n, (W.drewN n).cell? ⟨t, i, none⟩ = some (.int .u8 (u.toNat : Int)) := fun n => by rw [← hW]; exact hT5.cell (vals_at hu)
      have c2 : ∀ n, (W.drewN n).cell? ⟨g, i, none⟩ = some (.int .u8 (u.toNat : Int)) := fun n => by rw [← hW]; exact hM5.cell (vals_at hu2)
      have i8 : (i : Int) < 8 := by omega
      have i32 : (i : Int) < 32 := by omega
      rw [hW]
      replace hW : Unit → w5.drewN k = W := fun _ => hW
      clear hu hu2
      go_wp2_with fail
      go_quiet (fail)
      go_wp2
      go_roundw
      case rel => exact ⟨i + 1, k + nq, by omega, by go_num, by rw [← hW ()]; exact World.drewN_drewN ..⟩
      case measure => simp [intOf]; omega
    · obtain rfl : i = 8 := by omega
      simp only [show ((8 : Nat) : Int) = 8 from rfl]
      have hy5 := hy.since (below_drawn hw5 k)
      have hz5 := hz.since (below_drawn hw5 k)
      have hw6 := below_drawn hw5 k
      clear hM5 hT5 hw5
      generalize w5.drewN k = W at hy5 hz5 hw6 ⊢
      obtain ⟨sy, hsy⟩ : ∃ s : ByteArray, s = ⟨y.toArray⟩ := ⟨_, rfl⟩
      obtain ⟨sz, hsz⟩ : ∃ s : ByteArray, s = ⟨z.toArray⟩ := ⟨_, rfl⟩
      have t1 := fun k => (hy5.drewN k).str q capb hlq.out sy hsy
      have t2 := fun k => (hz5.drewN k).str s capd hls.out sz hsz
      have hsame : Unit → decide (z = y) = decide (y = z) := fun _ => decide_eq_decide.2 eq_comm
      obtain ⟨v, hv⟩ : ∃ v, decide (y = z) = v := ⟨_, rfl⟩
      have E1 : (sy.toList == sz.toList) = v := by
        rw [← hv, hsy, hsz]
        simp only [ByteArray.toList_eq]
        rw [Bool.eq_iff_iff]
        simp
      replace hv := Lib.hid hv
      replace hsy : Unit → sy = ⟨y.toArray⟩ := fun _ => hsy
      replace hsz : Unit → sz = ⟨z.toArray⟩ := fun _ => hsz
      go_wp2_with fail
      go_quiet ((go_at_call 14; first
        | with_reducible exact quiet_drew (same_ok b d q capb s capd y z v _ hlq.out hls.out (by omega) (hy5.drewN _) (hz5.drewN _) hv.out)
        | with_reducible exact quiet_drew (same_ok d b s capd q capb z y v _ hls.out hlq.out (by omega) (hz5.drewN _) (hy5.drewN _) ((hsame ()).trans hv.out))))
      go_wp2
      go_ret
      exact ⟨by simp, below_drawn hw6 _⟩

theorem macTags (a : Option Addr) (len cap : Nat) (z : List Int) (b : Option Addr) (lenb capb : Nat) (zb : List Int) (d : Option Addr) (lend capd : Nat) (zd : List Int) (w : World) (w0 : Nums .u8 w a len cap z) (w1 : Nums .u8 w b lenb capb zb) (w2 : Nums .u8 w d lend capd zd) (hL : laidMet Tryd.prog [("sidestick/sha.roots", Rows.laid_sidestick_sha_roots)] w) :
    Calls Tryd.prog 5 #[.slice a len cap, .slice b lenb capb, .slice d lend capd] w fun e w' => e = .returned (.bool true) ∧ Below w.heap.size w w' := by
  obtain ⟨l, rfl, hl, hcap⟩ := seen_nums w0
  obtain ⟨m, rfl, hm, hcapb⟩ := seen_nums w1
  obtain ⟨r, rfl, hr, hcapd⟩ := seen_nums w2
  exact tags_core a b d _ cap _ capb _ capd (l.take 150) (m.take 150) (r.take 150) (min l.length 150) (min m.length 150) (min r.length 150) w (hl.take 150) (hm.take 150) (hr.take 150) rfl (by simp; omega) hcap rfl (by simp; omega) hcapb rfl (by simp; omega) hcapd (table_of hL)
end Go.Proofs.YtcaeaejbccgpoaaDoor.walks
