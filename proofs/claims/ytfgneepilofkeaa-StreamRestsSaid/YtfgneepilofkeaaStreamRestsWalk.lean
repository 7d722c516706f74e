/-
  THE WALK OF StreamRests.
-/
import Derived.Test.YtfgneepilofkeaaStreamArgs
namespace Go.Proofs.Ytfgneepilofkeaa
open Go.RowKit Go.Proofs.Ytfgneepilofkeaa.octets Go.Proofs.Ytfgneepilofkeaa.frame Go.Proofs.Ytfgneepilofkeaa.given Go.Proofs.Ytfgneepilofkeaa.stream
set_option linter.unusedVariables false
set_option linter.unusedSimpArgs false

set_option maxRecDepth 100000 in
set_option maxHeartbeats 2000000 in
theorem walks.streamRests (a : Option Addr) (len cap : Nat) (A : Nat → Option Addr) (L C : Nat → Nat) (Z : Nat → List Int) (a1 : Option Addr) (len1 cap1 : Nat) (z1 : List Int) (w : World) (w0 : NumRows .u8 w a len cap A L C Z) (w1 : Nums .u8 w a1 len1 cap1 z1) :
    Calls Try.prog 6 #[.slice a len cap, .slice a1 len1 cap1] w fun e w' => e = .returned (.bool true) ∧ Below w.heap.size w w' := by
  obtain ⟨Ls, vs, hLl, hG, hP, hlc⟩ := pieces_came w0
  obtain ⟨y, hyl, hy, hyc⟩ := seen_nums w1
  clear w0 w1
  obtain ⟨m, hm⟩ : ∃ m, m = min len1 200 := ⟨_, rfl⟩
  have em : min (len1 : Int) 200 = (m : Int) := by omega
  have hcut := slice_h a1 len1 cap1 m (by omega)
  have hm1 : m ≤ cap1 := by omega
  have hm2 : m ≤ 200 := by omega
  have hy' : Seen w a1 (y.take 200) := hy.take 200
  have hyl' : (y.take 200).length = m := by rw [List.length_take, hyl, hm]; omega
  clear hy hyl hm hyc
  generalize y.take 200 = Y at hy' hyl'
  replace hyl' := Lib.hid hyl'
  replace hLl := Lib.hid hLl
  go_enter Try.func6, Try.ntmps6
  try dsimp only [List.append]
  go_wp2_with fail
  refine (shown_ok _).mono ?_
  rintro e w1 ⟨rfl, hw1⟩
  go_wp2_with fail
  refine (few_ok a len cap vs Ls w1 hlc hLl.out (hG.keep hw1) (hP.since hw1)).mono ?_
  rintro e w2 ⟨Ap, n, cp, us, rfl, hcp, hpl, hGp, hPp, hb2⟩
  have hn20 : n ≤ 20 := by rw [← hpl]; exact fewL_len Ls
  have h100 := fewL_each Ls
  have hw2 := hw1.trans (hb2.mono hw1.size)
  generalize fewL Ls = Lp at hpl hPp h100
  replace hpl := Lib.hid hpl
  have hall : Lp.take n = Lp := List.take_of_length_le (by rw [hpl.out]; exact Nat.le_refl _)
  have hLpf := flat_len Lp h100
  rw [hpl.out] at hLpf
  replace hall := Lib.hid hall
  clear hG hP hb2 hw1
  go_wp2_with fail
  refine (new_ok _).mono ?_
  rintro e w3 ⟨gs, rfl, hS3, hb3⟩
  go_wp2_with fail
  refine (new_ok _).mono ?_
  rintro e w4 ⟨gt, rfl, hT4, hb4⟩
  have hgs := hS3.1
  have hgs3 := hS3.lt
  have hgt := hT4.1
  have hgt4 := hT4.lt
  have hb24 := hb3.trans (hb4.mono hb3.size)
  have hz3 := hb3.size
  have hS4 : Str w4 (fun b => w2.heap.size ≤ b ∧ b ≠ gt) gs [] := hS3.keep (Keeps.of_below hb4) fun b h1 h2 => ⟨h2, by omega⟩
  have hT4' : Str w4 (fun b => w2.heap.size ≤ b ∧ b ≠ gs) gt [] := hT4.mono fun b h1 h2 => ⟨by omega, by omega⟩
  clear hS3 hT4 hb3 hb4
  go_wp2
  go_loopw [9] (fun t W => ∃ i : Nat, t = .int .i64 i ∧ i ≤ n ∧ Below w2.heap.size w2 W ∧ w4.heap.size ≤ W.heap.size ∧ Str W (fun b => w2.heap.size ≤ b ∧ b ≠ gt) gs (restB (Lp.take i).flatten) ∧ Str W (fun b => w2.heap.size ≤ b ∧ b ≠ gs) gt []) (fun t _ => n - (intOf t).toNat)
  case atStart => exact ⟨0, rfl, Nat.zero_le _, hb24, Nat.le_refl _, by rw [List.take_zero, List.flatten_nil, rest_nil]; exact hS4, hT4'⟩
  case round =>
    clear hS4 hT4' hb24
    obtain ⟨i, rfl, hi, hb, hzw, hS, hT⟩ := hrel
    by_cases hin : i = n
    · subst hin
      rw [hall.out] at hS
      go_wp2_with fail
      refine (joined_ok Ap i cp us Lp wr hcp hpl.out hn20 (hGp.keep hb) (hPp.since hb) h100).mono ?_
      rintro e w5 ⟨v5, rfl, ho5, hb5⟩
      have hS5 := hS.since hb5
      have hT5 := hT.since hb5
      have hw5 := hb.trans (hb5.mono hb.size)
      have hz5 := hb5.size
      generalize Lp.flatten = F at ho5 hLpf hS5
      obtain ⟨q, hq⟩ : ∃ q, F.length = q := ⟨_, rfl⟩
      obtain ⟨Aq, cq, rfl, hs5, hcq⟩ := own_cap ho5 hq
      have hRd := rest_drop F
      have hR37 := rest_small F
      have hRi := items_rest F
      have hRr := rest_rest F
      rw [hq] at hRd hLpf
      generalize restB F = R at hRd hR37 hS5 hRi hRr
      obtain ⟨k, hk⟩ : ∃ k, R.length = k := ⟨_, rfl⟩
      rw [hk] at hRd hR37
      obtain ⟨hkq, hRd⟩ := hRd
      have hqd : q - (q - k) = k := by omega
      obtain ⟨A6, c6, k1, k2, k3⟩ := cut_l Aq q cq (q - k) (by omega) hcq ((q : Int) - k) (by omega)
      have hs6 := k3 w5 F hq hs5
      rw [hRd] at hs6
      rw [hqd] at k1 k2
      replace hk := Lib.hid hk
      replace hRi := Lib.hid hRi
      replace hRr := Lib.hid hRr
      clear hq hqd hRd k3 hs5 hS hT ho5 hb5 hb hGp hPp h100 hLl hall hpl
      go_wp2_with fail
      (with_reducible refine (rest_ok gs k _ R _ hS5 hk.out).mono ?_)
      rintro e w6 ⟨rfl, rfl⟩
      go_wp2_with fail
      refine (take_ok gt _ [] R A6 k c6 w5 hT5 (by decide) hk.out k2 (by omega) hs6).mono ?_
      rintro e w7 ⟨v7, rfl, hI7, hT7, hg7⟩
      rw [List.nil_append, hRi.out] at hI7
      rw [List.nil_append, hRr.out] at hT7
      have hz7 := hg7.size
      have hw7 := hw5.grown hg7 hw5.size fun k e => by cases e; omega
      have hS7 := hS5.keep (Keeps.grown_other hg7 fun b _ h => h.2) fun _ _ h => h
      have hT7 : Str w7 (fun b => w2.heap.size ≤ b ∧ b ≠ gs) gt R := hT7.mono fun b _ h => by have := hw5.size; omega
      have hY7 := hy'.since (hw2.trans (hw7.mono hw2.size))
      obtain ⟨A7, c7, rfl, -, -⟩ := hI7.src
      clear hI7 hg7 hT5 hS5 hs6
      go_wp2_with fail
      refine (take_ok gs _ R Y a1 m cap1 w7 hS7 (by rw [hk.out]; omega) hyl'.out hm1 (by omega) hY7).mono ?_
      rintro e w8 ⟨v8, rfl, hI8, hS8, hg8⟩
      obtain ⟨M, hM⟩ : ∃ M, itemsB (R ++ Y) = M := ⟨_, rfl⟩
      have hIl := items_len (R ++ Y)
      rw [List.length_append, hk.out, hyl'.out, hM] at hIl
      rw [hM] at hI8
      obtain ⟨r, hr⟩ : ∃ r, (restB (R ++ Y)).length = r := ⟨_, rfl⟩
      replace hM := Lib.hid hM
      replace hr := Lib.hid hr
      have hz8 := hg8.size
      have hw8 := hw7.grown hg8 hw7.size fun k e => by cases e; omega
      have hT8 := hT7.keep (Keeps.grown_other hg8 fun b _ h => h.2) fun _ _ h => h
      have hY8 := hy'.since (hw2.trans (hw8.mono hw2.size))
      have hS8 : Str w8 (fun b => w2.heap.size ≤ b ∧ b ≠ gt) gs (restB (R ++ Y)) := hS8.mono fun b _ h => by have := hw7.size; omega
      clear hg8 hT7 hS7 hY7
      go_wp2_with fail
      refine (take_ok gt _ R Y a1 m cap1 w8 hT8 (by rw [hk.out]; omega) hyl'.out hm1 (by omega) hY8).mono ?_
      rintro e w9 ⟨v9, rfl, hI9, hT9, hg9⟩
      rw [hM.out] at hI9
      have hw9 := hw8.grown hg9 hw8.size fun k e => by cases e; omega
      have hz9 := hw9.size
      have hS9 := hS8.keep (Keeps.grown_other hg9 fun b _ h => h.2) fun _ _ h => h
      have hI89 := hI8.keep (B' := fun _ => True) (Keeps.grown_other hg9 fun b _ h => by omega) fun _ _ _ => trivial
      clear hI8 hg9 hT8 hS8 hY8
      go_wp2_with fail
      refine (same_ok _ _ _ _ M _ (by omega) hI89 hI9).mono ?_
      rintro e w10 ⟨rfl, hb10⟩
      have hS10 := hS9.since hb10
      have hT10 := hT9.since hb10
      have hw10 := hw2.trans ((hw9.trans (hb10.mono hz9)).mono hw2.size)
      clear hS9 hT9 hb10 hI89 hI9
      go_wp2_with fail
      (with_reducible refine (rest_ok gs r _ _ _ hS10 hr.out).mono ?_)
      rintro e w11 ⟨rfl, rfl⟩
      go_wp2_with fail
      (with_reducible refine (rest_ok gt r _ _ _ hT10 hr.out).mono ?_)
      rintro e w11 ⟨rfl, rfl⟩
      go_wp2
      go_ret
      exact ⟨rfl, hw10⟩
    · have hlt : i < n := by omega
      obtain ⟨b, o, A', c', rfl, hblt, hcell, hc', hs⟩ := hPp.at_ hGp i (by rw [hpl.out]; exact hlt)
      have hstep := rest_flat Lp i (by rw [hpl.out]; exact hlt)
      have hl1 := h100 _ (List.getElem_mem (show i < Lp.length by rw [hpl.out]; exact hlt))
      obtain ⟨l, hle⟩ : ∃ l, (Lp[i]'(by rw [hpl.out]; exact hlt)) = l := ⟨_, rfl⟩
      obtain ⟨k, hk⟩ : ∃ k, l.length = k := ⟨_, rfl⟩
      rw [hle] at hcell hc' hs hstep hl1
      rw [hk] at hcell hc' hl1
      have hcell := (hb.cell (p := ⟨b, o + i, none⟩) hblt).trans hcell
      have hs := hs.since hb
      have hr := rest_small (Lp.take i).flatten
      generalize restB (Lp.take i).flatten = R at hS hstep hr
      replace hstep := Lib.hid hstep
      replace hk := Lib.hid hk
      clear hle hin
      go_wp2_with fail
      refine (take_ok gs _ R l A' k c' wr hS hr hk.out hc' (by omega) hs).mono ?_
      rintro e w5 ⟨v5, rfl, -, hS5, hg5⟩
      rw [hstep.out] at hS5
      have hb5 := hb.grown hg5 hb.size fun k e => by cases e; exact hgs
      have hz5 := hg5.size
      have hT5 := hT.keep (Keeps.grown_other hg5 fun b _ h => h.2) fun _ _ h => h
      have hS5' : Str w5 (fun b => w2.heap.size ≤ b ∧ b ≠ gt) gs (restB (Lp.take (i + 1)).flatten) := hS5.mono fun b _ h => by have := hb.size; omega
      go_wp2
      go_roundw
      case rel => exact ⟨i + 1, by go_num, by omega, hb5, by omega, hS5', hT5⟩
      case measure => simp [intOf]; omega
end Go.Proofs.Ytfgneepilofkeaa
