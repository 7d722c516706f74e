/-
  THE CONTRACT OF the reference's Next.
-/
import Derived.Test.YtafhfimkgaecjaaFrameRef
namespace Go.Proofs.Ytafhfimkgaecjaa.frame
open Go.RowKit Go.Proofs.Ytafhfimkgaecjaa.octets Go.Proofs.Ytafhfimkgaecjaa.crc
set_option linter.unusedVariables false
set_option linter.unusedSimpArgs false

theorem getD_val (l : List UInt8) (i : Nat) (h : i < l.length) : l.getD i 0 = l[i] := by simp [List.getD_eq_getElem?_getD, List.getElem?_eq_getElem h]
set_option maxRecDepth 100000 in
set_option maxHeartbeats 4000000 in
theorem rnext_ok (A : Option Addr) (n c : Nat) (l : List UInt8) (w : World) (hl : l.length = n) (hc : n ≤ c) (hn : n ≤ 1048576) (hs : Seen w A l) :
    Calls Try.prog 14 #[.slice A n c] w fun e w' => ∃ v, e = .returned v ∧ Is w' w.heap.size v (nextB l) ∧ Below w.heap.size w w' := by
  have hw0 := below_new w (.cells #[.int .i64 0, .int .i64 0, .int .i64 0, .slice none 0 0] 30)
  have hR0 := new_zf w 30
  by_cases hn0 : n = 0
  · subst hn0
    have e : nextB l = wait := by unfold nextB; rw [if_pos hl]
    rw [e]
    go_enter Try.func14, Try.ntmps14
    go_wp2
    exact ret_arr rfl w.heap.size _ _ rfl hR0 Try.underlying30 rfl (by kernel_rfl) rfl ⟨_, rfl, is_wait _ _, hw0⟩
  obtain ⟨b, o, rfl, hb, hcl⟩ := hs.at_ (k := 0) (by omega)
  have hcell : ∀ i, i < n → ∀ W : World, Below w.heap.size w W → W.cell? ⟨b, o + i, none⟩ = some (.int .u8 ((l.getD i 0).toNat : Int)) := fun i hi W hW => by
    rw [hW.cell hb, hcl i (by omega), getD_val l i (by omega)]
  clear hcl
  replace hcell := Lib.hid hcell
  obtain ⟨x0, hx0⟩ : ∃ x, (l.getD 0 0).toNat = x := ⟨_, rfl⟩
  obtain ⟨x1, hx1⟩ : ∃ x, (l.getD 1 0).toNat = x := ⟨_, rfl⟩
  have q0 : l.getD 0 0 = 165 ↔ x0 = 165 := by rw [← hx0, ← UInt8.toNat_inj]; rfl
  have q1 : l.getD 1 0 = 1 ↔ x1 = 1 := by rw [← hx1, ← UInt8.toNat_inj]; rfl
  have hlen : ¬ l.length = 0 := by omega
  have hnn0 : ¬ (n : Int) = 0 := by omega
  have c0 := hcell.out 0 (by omega) _ hw0
  rw [hx0, Nat.add_zero] at c0
  by_cases hb0 : x0 = 165
  rotate_left
  · have t0 : ((x0 : Int) != 165) = true := by rw [bne_iff_ne]; omega
    have e : nextB l = ⟨1, skipN l, 0, []⟩ := by
      unfold nextB
      rw [if_neg hlen, if_pos (fun h => hb0 (q0.1 h))]
    rw [e]
    clear e
    obtain ⟨k, hk⟩ : ∃ k, skipN l = k := ⟨_, rfl⟩
    have hend : ∀ i, i ≤ l.length → (∀ j, j < i → l.getD j 0 ≠ 165) → (i < l.length → l.getD i 0 = 165) → i = k := fun i h1 h2 h3 => by rw [← hk]; exact (skip_is l i h1 h2 h3).symm
    rw [hk]
    clear hk
    go_enter Try.func14, Try.ntmps14
    go_wp2
    go_loopw [3] (fun t V => ∃ i : Nat, i ≤ n ∧ t = .int .i64 i ∧ V = (w.alloc (.cells #[.int .i64 0, .int .i64 0, .int .i64 0, .slice none 0 0] 30)) ∧ ∀ j, j < i → l.getD j 0 ≠ 165) (fun t _ => n - (intOf t).toNat)
    case atStart => exact ⟨0, by omega, rfl, rfl, fun j hj => by omega⟩
    case round =>
      obtain ⟨i, hi, rfl, rfl, hj⟩ := hrel
      by_cases hin : i < n
      · obtain ⟨y, hy⟩ : ∃ y, (l.getD i 0).toNat = y := ⟨_, rfl⟩
        have ci := hcell.out i hin _ hw0
        have qi : l.getD i 0 = 165 ↔ y = 165 := by rw [← hy, ← UInt8.toNat_inj]; rfl
        rw [hy] at ci
        have hin' : (i : Int) < (n : Int) := by omega
        by_cases h165 : y = 165
        · have ti : ((y : Int) != 165) = false := by rw [bne_eq_false_iff_eq]; omega
          obtain rfl : i = k := hend i (by omega) hj (fun _ => qi.2 h165)
          go_wp2
          exact ret_arr rfl w.heap.size _ _ rfl (new_fv w 1 i 0 _ 30) Try.underlying30 rfl (by kernel_rfl) rfl ⟨_, rfl, is_skip _ _ _, below_new _ _⟩
        · have ti : ((y : Int) != 165) = true := by rw [bne_iff_ne]; omega
          go_wp2
          go_roundw
          case rel =>
            refine ⟨i + 1, by omega, by go_num, trivial, fun j hj' => ?_⟩
            by_cases e : j = i
            · rw [e]; exact fun h => h165 (qi.1 h)
            · exact hj j (by omega)
          case measure => simp [intOf]; omega
      · obtain rfl : i = n := by omega
        have hk : i = k := hend i (by omega) hj (fun h => by omega)
        subst hk
        go_wp2
        exact ret_arr rfl w.heap.size _ _ rfl (new_fv w 1 i 0 _ 30) Try.underlying30 rfl (by kernel_rfl) rfl ⟨_, rfl, is_skip _ _ _, below_new _ _⟩
  rw [hb0] at c0 hx0
  simp only [show ((165 : Nat) : Int) = 165 from rfl] at c0
  by_cases hn1 : n = 1
  · subst hn1
    have e : nextB l = wait := by
      unfold nextB
      rw [if_neg hlen, if_neg (fun h => h (q0.2 hb0)), if_pos hl]
    rw [e]
    clear e
    go_enter Try.func14, Try.ntmps14
    go_wp2
    exact ret_arr rfl w.heap.size _ _ rfl hR0 Try.underlying30 rfl (by kernel_rfl) rfl ⟨_, rfl, is_wait _ _, hw0⟩
  have hnn1 : ¬ (n : Int) = 1 := by omega
  have c1 := hcell.out 1 (by omega) _ hw0
  rw [hx1] at c1
  by_cases hb1 : x1 = 1
  rotate_left
  · have t1 : ((x1 : Int) != 1) = true := by rw [bne_iff_ne]; omega
    have e : nextB l = rej 10 := by
      unfold nextB
      rw [if_neg hlen, if_neg (fun h => h (q0.2 hb0)), if_neg (by omega), if_pos (fun h => hb1 (q1.1 h))]
    rw [e]
    clear e
    go_enter Try.func14, Try.ntmps14
    go_wp2_with fail
    (with_reducible refine (rreject_ok 10 _).mono ?_)
    rintro e w1 ⟨rfl, hb1'⟩
    have hR1 := hR0.since hb1'
    have hw1 := hw0.trans (hb1'.mono hw0.size)
    go_wp2_with (guard_target =~ wpList _ _ _ (Oper.mk _ (Op.store _ _ _) _ _ _ _ :: _) _ _; refine wpList_store_arr (cs' := fv 3 1 10 (.slice none 0 0)) 4 rfl rfl rfl rfl hR1 (by kernel_rfl) rfl rfl (fv_one _ _ _ _ _ _) ?_)
    intro w2 hR2 ho2 hb2 hs2
    have hw2 := hw1.trans hb2
    go_wp2
    exact ret_arr rfl w.heap.size _ _ rfl hR2 Try.underlying30 rfl (by kernel_rfl) rfl ⟨_, rfl, is_rej _ _ 10, hw2⟩
  rw [hb1] at c1 hx1
  simp only [show ((1 : Nat) : Int) = 1 from rfl] at c1
  by_cases hn2 : n = 2
  · subst hn2
    have e : nextB l = wait := by
      unfold nextB
      rw [if_neg hlen, if_neg (fun h => h (q0.2 hb0)), if_neg (by omega), if_neg (fun h => h (q1.2 hb1)), if_pos hl]
    rw [e]
    clear e
    go_enter Try.func14, Try.ntmps14
    go_wp2
    exact ret_arr rfl w.heap.size _ _ rfl hR0 Try.underlying30 rfl (by kernel_rfl) rfl ⟨_, rfl, is_wait _ _, hw0⟩
  have hnn2 : ¬ (n : Int) = 2 := by omega
  have e : nextB l = measB l := by
    unfold nextB
    rw [if_neg hlen, if_neg (fun h => h (q0.2 hb0)), if_neg (by omega), if_neg (fun h => h (q1.2 hb1)), if_neg (by omega)]
  rw [e]
  clear e q0 q1 hb0 hb1 hx0 hx1 x0 x1
  obtain ⟨m, hm⟩ : ∃ m, (l.getD 2 0).toNat = m := ⟨_, rfl⟩
  have hm8 : m < 256 := by rw [← hm]; exact UInt8.toNat_lt _
  have c2 := hcell.out 2 (by omega) _ hw0
  rw [hm] at c2
  by_cases h32 : 32 < m
  · have e : measB l = rej 11 := by unfold measB; rw [hm, if_pos h32]
    rw [e]
    clear e
    go_enter Try.func14, Try.ntmps14
    go_wp2_with fail
    (with_reducible refine (rreject_ok 11 _).mono ?_)
    rintro e w1 ⟨rfl, hb1'⟩
    have hR1 := hR0.since hb1'
    have hw1 := hw0.trans (hb1'.mono hw0.size)
    go_wp2_with (guard_target =~ wpList _ _ _ (Oper.mk _ (Op.store _ _ _) _ _ _ _ :: _) _ _; refine wpList_store_arr (cs' := fv 3 1 11 (.slice none 0 0)) 4 rfl rfl rfl rfl hR1 (by kernel_rfl) rfl rfl (fv_one _ _ _ _ _ _) ?_)
    intro w2 hR2 ho2 hb2 hs2
    have hw2 := hw1.trans hb2
    go_wp2
    exact ret_arr rfl w.heap.size _ _ rfl hR2 Try.underlying30 rfl (by kernel_rfl) rfl ⟨_, rfl, is_rej _ _ 11, hw2⟩
  by_cases h5 : n < m + 5
  · have e : measB l = wait := by unfold measB; rw [hm, if_neg h32, hl, if_pos h5]
    rw [e]
    clear e
    go_enter Try.func14, Try.ntmps14
    go_wp2
    exact ret_arr rfl w.heap.size _ _ rfl hR0 Try.underlying30 rfl (by kernel_rfl) rfl ⟨_, rfl, is_wait _ _, hw0⟩
  obtain ⟨s, hsum⟩ : ∃ s, sumL 65535 ((l.drop 1).take (m + 2)) = s := ⟨_, rfl⟩
  have hs64 : s < 65536 := by rw [← hsum]; exact sumL_lt _ (by decide)
  obtain ⟨x, hx⟩ : ∃ x, (l.getD (m + 3) 0).toNat = x := ⟨_, rfl⟩
  obtain ⟨y, hy⟩ : ∃ y, (l.getD (m + 4) 0).toNat = y := ⟨_, rfl⟩
  have hx8 : x < 256 := by rw [← hx]; exact UInt8.toNat_lt _
  have hy8 : y < 256 := by rw [← hy]; exact UInt8.toNat_lt _
  obtain ⟨A', c', k3, hc', hs'⟩ := cut_lh (some ⟨b, o, none⟩) n c 1 (m + 3) (by omega) (by omega) 1 ((m : Int) + 3) rfl (by omega)
  rw [show m + 3 - 1 = m + 2 by omega] at k3 hc' hs'
  have hs1 := hs' _ _ (hs.since hw0)
  have hl1 : ((l.drop 1).take (m + 2)).length = m + 2 := by simp; omega
  obtain ⟨A'', c'', k4, hc'', hs''⟩ := cut_lh (some ⟨b, o, none⟩) n c 3 (m + 3) (by omega) (by omega) 3 ((m : Int) + 3) rfl (by omega)
  rw [show m + 3 - 3 = m by omega] at k4 hc'' hs''
  have hs3 := hs'' _ _ (hs.since hw0)
  have hl3 : ((l.drop 3).take m).length = m := by simp; omega
  have cx : ∀ q, ((w.alloc (.cells #[.int .i64 0, .int .i64 0, .int .i64 0, .slice none 0 0] 30)).drewN q).cell? ⟨b, o + (m + 3), none⟩ = some (.int .u8 (x : Int)) := fun q => by rw [← hx]; exact hcell.out (m + 3) (by omega) _ (below_drawn hw0 q)
  have cy : ∀ q, ((w.alloc (.cells #[.int .i64 0, .int .i64 0, .int .i64 0, .slice none 0 0] 30)).drewN q).cell? ⟨b, o + (m + 4), none⟩ = some (.int .u8 (y : Int)) := fun q => by rw [← hy]; exact hcell.out (m + 4) (by omega) _ (below_drawn hw0 q)
  obtain ⟨v, hv⟩ : ∃ v, ((s : Int) != 256 * (x : Int) + (y : Int)) = v := ⟨_, rfl⟩
  have hm3 : measB l = if v then rej 12 else ⟨2, m + 5, 0, (l.drop 3).take m⟩ := by
    unfold measB
    rw [hm, hsum, hx, hy, if_neg h32, hl, if_neg h5]
    have : (s ≠ 256 * x + y) ↔ (v = true) := by
      rw [← hv, bne_iff_ne]
      omega
    by_cases h : s = 256 * x + y
    · rw [if_neg (by omega), if_neg (by rw [← this]; omega)]
    · rw [if_pos h, if_pos (this.1 h)]
  rw [hm3]
  clear hm3
  replace hsum := Lib.hid hsum
  replace hl1 := Lib.hid hl1
  replace hl3 := Lib.hid hl3
  have hR0' : ∀ q, Arr ((w.alloc (.cells #[.int .i64 0, .int .i64 0, .int .i64 0, .slice none 0 0] 30)).drewN q) w.heap.size (fv 0 0 0 (.slice none 0 0)) := fun q => hR0.drewN q
  clear hs' hs'' hs hm hl hx hy
  generalize (l.drop 1).take (m + 2) = l1 at hs1 hl1 hsum
  generalize (l.drop 3).take m = l3 at hs3 hl3 ⊢
  go_enter Try.func14, Try.ntmps14
  go_wp2_with fail
  (with_reducible refine (rsum_at A' (m + 2) c' _ s _ hl1.out (by omega) hs1 hsum.out).mono ?_)
  rintro e w1 ⟨rfl, rfl⟩
  generalize w.alloc (.cells #[.int .i64 0, .int .i64 0, .int .i64 0, .slice none 0 0] 30) = W0 at *
  go_wp2_with fail
  go_quiet (fail)
  have hW := below_drawn hw0 nq
  have hRq := hR0' nq
  have hs3q : Seen (W0.drewN nq) A'' l3 := hs3
  clear cx cy hR0' hs1 hs3 hw0 hR0 c0 c1 c2 hcell
  generalize W0.drewN nq = W at hW hRq hs3q ⊢
  cases v with
  | true =>
    go_wp2_with fail
    (with_reducible refine (rreject_ok 12 _).mono ?_)
    rintro e w3 ⟨rfl, hb3⟩
    have hR3 := hRq.since hb3
    have hw3 := hW.trans (hb3.mono hW.size)
    go_wp2_with (guard_target =~ wpList _ _ _ (Oper.mk _ (Op.store _ _ _) _ _ _ _ :: _) _ _; refine wpList_store_arr (cs' := fv 3 1 12 (.slice none 0 0)) 4 rfl rfl rfl rfl hR3 (by kernel_rfl) rfl rfl (fv_one _ _ _ _ _ _) ?_)
    intro w4 hR4 ho4 hb4 hs4
    have hw4 := hw3.trans hb4
    go_wp2
    exact ret_arr rfl w.heap.size _ _ rfl hR4 Try.underlying30 rfl (by kernel_rfl) rfl ⟨_, rfl, is_rej _ _ 12, hw4⟩
  | false =>
    have hlt := hRq.lt
    go_wp2_with (at_builtin; refine wpList_append_own_any _ rfl (.tmp 80) (.tmp 84) rfl W.heap.size _ [] rfl (own_none _ _ (Nat.le_refl _)) A'' m c'' rfl l3 hl3.out (hs3q.alloc _) (by rw [hl3.out]; simp; omega) (by simp) ?_)
    intro v3 w3 hown hg3 hat3
    have hb3 : Below W.heap.size W w3 := (below_new W _).grown hg3 (by simp) (by intro g hg; simp [Value.ownBlock] at hg; omega)
    have hR3 := hRq.since hb3
    have hw3 := hW.trans (hb3.mono hW.size)
    have hl0 := hl3.out
    replace hown : Own w3 W.heap.size v3 l3 := hown
    obtain ⟨B, cb, rfl, hsB⟩ := hown.seen_at hl3.out
    go_wp2_with (guard_target =~ wpList _ _ _ (Oper.mk _ (Op.store _ _ _) _ _ _ _ :: _) _ _; refine wpList_store_arr (cs' := fv 2 ((m : Int) + 5) 0 (.slice B m cb)) 4 rfl rfl rfl rfl hR3 (by kernel_rfl) rfl rfl (fv_one _ _ _ _ _ _) ?_)
    intro w4 hR4 ho4 hb4 hs4
    have hw4 := hw3.trans hb4
    have hown4 := (hown.of_block fun g hg => ho4 g (by have := (hown.lt hg).1; omega)).mono hW.size
    go_wp2
    refine ret_arr rfl w.heap.size _ _ rfl hR4 Try.underlying30 rfl (by kernel_rfl) rfl ⟨_, rfl, ⟨B, cb, ?_, ?_⟩, hw4⟩
    · show _ = Value.agg (fv 2 ((m + 5 : Nat) : Int) 0 (.slice B l3.length cb)).toArray
      rw [hl0, show ((m + 5 : Nat) : Int) = (m : Int) + 5 by omega]
    · show Own w4 w.heap.size (.slice B l3.length cb) l3
      rw [hl0]
      exact hown4
end Go.Proofs.Ytafhfimkgaecjaa.frame
