/-
  THE WALK OF StreamAgain.
-/
import Derived.Test.YtfgneepilofkeaaStreamArgs
import Derived.Test.YtfgneepilofkeaaFrameRPut
namespace Go.Proofs.Ytfgneepilofkeaa
open Go.RowKit Go.Proofs.Ytfgneepilofkeaa.octets Go.Proofs.Ytfgneepilofkeaa.frame Go.Proofs.Ytfgneepilofkeaa.given Go.Proofs.Ytfgneepilofkeaa.stream
set_option linter.unusedVariables false
set_option linter.unusedSimpArgs false

theorem again_step (F : List UInt8) (c : UInt8) (i : Nat) : restB (restB (F ++ List.replicate i c) ++ [c]) = restB (F ++ List.replicate (i + 1) c) := by
  rw [← rest_app, List.append_assoc, ← List.replicate_succ']

set_option maxRecDepth 100000 in
set_option maxHeartbeats 4000000 in
theorem walks.streamAgain (a : Option Addr) (len cap : Nat) (A : Nat → Option Addr) (L C : Nat → Nat) (Z : Nat → List Int) (a1 : Option Addr) (len1 cap1 : Nat) (z1 : List Int) (a2 : Int) (w : World) (w0 : NumRows .u8 w a len cap A L C Z) (w1 : Nums .u8 w a1 len1 cap1 z1) (w2 : (Lit.int .u8 a2).wf = true) :
    Calls Try.prog 5 #[.slice a len cap, .slice a1 len1 cap1, .int .u8 a2] w fun e w' => e = .returned (.bool true) ∧ Below w.heap.size w w' := by
  obtain ⟨Ls, vs, hLl, hG, hP, hlc⟩ := pieces_came w0
  obtain ⟨y, hyl, hy, hyc⟩ := seen_nums w1
  have ha2 : 0 ≤ a2 ∧ a2 ≤ 255 := by simpa [Lit.wf, IntKind.min, IntKind.max, IntKind.signed, IntKind.bits] using w2
  clear w0 w1 w2
  obtain ⟨m, hm⟩ : ∃ m, m = min len1 32 := ⟨_, rfl⟩
  have em : min (len1 : Int) 32 = (m : Int) := by omega
  have hcut := slice_h a1 len1 cap1 m (by omega)
  have hm1 : m ≤ cap1 := by omega
  have hm2 : m ≤ 32 := by omega
  have hy' : Seen w a1 (y.take 32) := hy.take 32
  have hyl' : (y.take 32).length = m := by rw [List.length_take, hyl, hm]; omega
  clear hy hyl hm hyc
  generalize y.take 32 = Y at hy' hyl'
  have hput := put_app Y [] (by omega)
  rw [List.append_nil, items_nil, rest_nil] at hput
  replace hput := Lib.hid hput
  replace hyl' := Lib.hid hyl'
  replace hLl := Lib.hid hLl
  obtain ⟨x, rfl⟩ : ∃ x : Nat, a2 = x := ⟨a2.toNat, by omega⟩
  have hx255 : x ≤ 255 := by omega
  clear ha2
  go_enter Try.func5, Try.ntmps5
  try dsimp only [List.append]
  go_wp2_with fail
  refine (shown_ok _).mono ?_
  rintro e w1 ⟨rfl, hw1⟩
  go_wp2_with fail
  refine (few_ok a len cap vs Ls w1 hlc hLl.out (hG.keep hw1) (hP.since hw1)).mono ?_
  rintro e w2 ⟨Ap, n, cp, us, rfl, hcp, hpl, hGp, hPp, hb2⟩
  have hn20 : n ≤ 20 := by rw [← hpl]; exact fewL_len Ls
  have h100 := fewL_each Ls
  have hw2 := hw1.trans (hb2.mono hw1.size)
  generalize fewL Ls = Lp at hpl hPp h100
  replace hpl := Lib.hid hpl
  have hall : Lp.take n = Lp := List.take_of_length_le (by rw [hpl.out]; exact Nat.le_refl _)
  replace hall := Lib.hid hall
  clear hG hP hb2 hw1
  go_wp2_with fail
  refine (new_ok _).mono ?_
  rintro e w3 ⟨gs, rfl, hS3, hb3⟩
  have hgs := hS3.1
  go_wp2
  go_loopw [10] (fun t W => ∃ i : Nat, t = .int .i64 i ∧ i ≤ n ∧ Below w2.heap.size w2 W ∧ Str W (fun b => w2.heap.size ≤ b) gs (restB (Lp.take i).flatten)) (fun t _ => n - (intOf t).toNat)
  case atStart => exact ⟨0, rfl, Nat.zero_le _, hb3, by rw [List.take_zero, List.flatten_nil, rest_nil]; exact hS3⟩
  case round =>
    clear hS3 hb3
    obtain ⟨i, rfl, hi, hb, hS⟩ := hrel
    by_cases hin : i = n
    · subst hin
      rw [hall.out] at hS
      generalize Lp.flatten = F at hS
      clear hGp hPp h100 hall hpl hLl
      have two : ∃ (v : Int) (c : UInt8), c ≠ 165 ∧ (c.toNat : Int) = v ∧ (((x : Int) == 165) = true ∧ v = 0 ∨ ((x : Int) == 165) = false ∧ v = x) := by
        by_cases hx : x = 165
        · exact ⟨0, 0, by decide, rfl, .inl ⟨by rw [beq_iff_eq]; omega, rfl⟩⟩
        · have e : (UInt8.ofNat x).toNat = x := by rw [UInt8.toNat_ofNat']; omega
          refine ⟨x, UInt8.ofNat x, fun h => hx ?_, by rw [e], .inr ⟨by rw [beq_eq_false_iff_ne]; omega, rfl⟩⟩
          have := congrArg UInt8.toNat h
          rw [e] at this
          exact this
      obtain ⟨v, c, hc, hcv, hx⟩ := two
      have hz36 : Hid (restB (F ++ List.replicate 36 c) = []) := Lib.hid (calm_over F _ (fun d hd => by rw [List.eq_of_mem_replicate hd]; exact hc) (by simp))
      replace hcv := Lib.hid hcv
      rcases hx with ⟨hx, rfl⟩ | ⟨hx, rfl⟩
      all_goals
        go_wp2
        go_loopw [11] (fun t W => ∃ j : Nat, t = .int .i64 j ∧ j ≤ 36 ∧ Below w2.heap.size w2 W ∧ Str W (fun b => w2.heap.size ≤ b) gs (restB (F ++ List.replicate j c))) (fun t _ => 36 - (intOf t).toNat)
        case atStart => exact ⟨0, rfl, Nat.zero_le _, hb, by rw [List.replicate_zero, List.append_nil]; exact hS⟩
        case round =>
          clear hS hb
          obtain ⟨j, rfl, hj, hb, hS⟩ := hrel
          by_cases hj36 : j = 36
          · subst hj36
            rw [hz36.out] at hS
            have hy4 := hy'.since (hw2.trans (hb.mono hw2.size))
            go_wp2_with fail
            (with_reducible refine (rest_ok gs 0 _ [] _ hS rfl).mono ?_)
            rintro e w4 ⟨rfl, rfl⟩
            simp only [show ((0 : Nat) : Int) = 0 from rfl]
            go_wp2_with fail
            refine (rput_ok a1 m cap1 Y _ hyl'.out hm2 hy4).mono ?_
            rintro e w5 ⟨v5, rfl, ho5, hb5⟩
            have hS5 := hS.since hb5
            have hw5 := hb.trans (hb5.mono hb.size)
            obtain ⟨A5, c5, rfl, hs5, hc5⟩ := own_cap ho5 (k := m + 5) (by rw [putB_len, hyl'.out])
            clear ho5 hb5 hS hb hy4
            go_wp2_with fail
            refine (take_ok gs _ [] (putB Y) A5 (m + 5) c5 w5 hS5 (by decide) (by rw [putB_len, hyl'.out]) hc5 (by omega) hs5).mono ?_
            rintro e w6 ⟨v6, rfl, hI6, hS6, hg6⟩
            rw [List.nil_append, hput.out.1] at hI6
            rw [List.nil_append, hput.out.2] at hS6
            have hw6 := hw5.grown hg6 hw5.size fun k e => by cases e; exact hgs
            have hy6 := hy'.since (hw2.trans (hw6.mono hw2.size))
            have hwE := hw2.trans (hw6.mono hw2.size)
            obtain ⟨A6, c6, rfl, hc6, hs6⟩ := hI6.src
            obtain ⟨b, o, A', c', rfl, hb', x1, x2, x3⟩ := hs6.at_ (i := 0) (by simp)
            rw [Nat.zero_mul, Nat.add_zero] at x1 x2
            obtain ⟨s, hs⟩ : ∃ s : ByteArray, s = ⟨Y.toArray⟩ := ⟨_, rfl⟩
            have x2 : w6.cell? ⟨b, o + 1, none⟩ = some (.slice A' m c') := hyl'.out ▸ x2
            have p1 : ∀ q, (w6.drewN q).cell? ⟨b, o, none⟩ = some (.int .i64 0) := fun q => x1
            have p2 : ∀ q, (w6.drewN q).cell? ⟨b, o + 1, none⟩ = some (.slice A' m c') := fun q => x2
            have t1 : ∀ q, (convert 23 9 (.slice A' m c')).run Try.prog (w6.drewN q) = .ok (.string s) (w6.drewN q) := fun q => (x3.drewN q).str m c' hyl'.out s hs
            have t2 : ∀ q, (convert 23 9 (.slice a1 m cap1)).run Try.prog (w6.drewN q) = .ok (.string s) (w6.drewN q) := fun q => (hy6.drewN q).str m cap1 hyl'.out s hs
            have hrs : ∀ q, Calls Try.prog 15 #[.pointer (some ⟨gs, 0, none⟩)] (w6.drewN q) fun e w' => e = .returned (.int .i64 ((0 : Nat) : Int)) ∧ w6.drewN q = w' := fun q => rest_ok gs 0 _ [] (w6.drewN q) (hS6.since ⟨rfl, rfl, rfl, Nat.le_refl _, fun _ _ => rfl⟩) rfl
            simp only [List.length_singleton]
            replace hs := Lib.hid hs
            clear x1 x2 x3 hs6 hI6 hS6 hg6 hS5 hs5 hw5
            go_wp2_with fail
            go_quiet ((go_at_call 15; exact quiet_eq (hrs _)))
            have hwF := below_drawn hwE nq
            go_wp2
            go_ret
            exact ⟨by simp, hwF⟩
          · have hlt : j < 36 := by omega
            have hr := rest_small (F ++ List.replicate j c)
            have hstep := again_step F c j
            have hlit : ∀ u : Int, (c.toNat : Int) = u → Seen (wr.alloc (.cells #[.int .u8 u] 5)) (some ⟨wr.heap.size, 0, none⟩) [c] := fun u hu => (Held.lit wr [c] _ (by simp [vals, hu]) (by simp [maxLen])).seen
            have hl4 := hlit _ hcv.out
            generalize restB (F ++ List.replicate j c) = R at hS hr hstep
            replace hstep := Lib.hid hstep
            clear hlit
            go_wp2_with fail
            refine (take_ok gs _ R [c] (some ⟨wr.heap.size, 0, none⟩) 1 1 _ (hS.alloc _) hr rfl (by decide) (by decide) hl4).mono ?_
            rintro e w5 ⟨v5, rfl, -, hS5, hg5⟩
            rw [hstep.out] at hS5
            have hb4 := hb.alloc hb.size (.cells #[.int .u8 (c.toNat : Int)] 5)
            rw [hcv.out] at hb4
            have hb5 := hb4.grown hg5 hb4.size fun k e => by cases e; exact hgs
            have hz4 := hb4.size
            have hS5' : Str w5 (fun b => w2.heap.size ≤ b) gs (restB (F ++ List.replicate (j + 1) c)) := hS5.mono fun b _ h => by omega
            go_wp2
            go_roundw
            case rel => exact ⟨j + 1, by go_num, by omega, hb5, hS5'⟩
            case measure => simp [intOf]; omega
    · have hlt : i < n := by omega
      obtain ⟨b, o, A', c', rfl, hblt, hcell, hc', hs⟩ := hPp.at_ hGp i (by rw [hpl.out]; exact hlt)
      have hstep := rest_flat Lp i (by rw [hpl.out]; exact hlt)
      have hl1 := h100 _ (List.getElem_mem (show i < Lp.length by rw [hpl.out]; exact hlt))
      obtain ⟨l, hle⟩ : ∃ l, (Lp[i]'(by rw [hpl.out]; exact hlt)) = l := ⟨_, rfl⟩
      obtain ⟨k, hk⟩ : ∃ k, l.length = k := ⟨_, rfl⟩
      rw [hle] at hcell hc' hs hstep hl1
      rw [hk] at hcell hc' hl1
      have hcell := (hb.cell (p := ⟨b, o + i, none⟩) hblt).trans hcell
      have hs := hs.since hb
      have hr := rest_small (Lp.take i).flatten
      generalize restB (Lp.take i).flatten = R at hS hstep hr
      replace hstep := Lib.hid hstep
      replace hk := Lib.hid hk
      clear hle hin
      go_wp2_with fail
      refine (take_ok gs _ R l A' k c' wr hS hr hk.out hc' (by omega) hs).mono ?_
      rintro e w5 ⟨v5, rfl, -, hS5, hg5⟩
      rw [hstep.out] at hS5
      have hb5 := hb.grown hg5 hb.size fun k e => by cases e; exact hgs
      have hS5' : Str w5 (fun b => w2.heap.size ≤ b) gs (restB (Lp.take (i + 1)).flatten) := hS5.mono fun b _ h => by have := hb.size; omega
      go_wp2
      go_roundw
      case rel => exact ⟨i + 1, by go_num, by omega, hb5, hS5'⟩
      case measure => simp [intOf]; omega
end Go.Proofs.Ytfgneepilofkeaa
