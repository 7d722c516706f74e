/-
  THE WALK OF StreamCuts.
-/
import Derived.Test.YtfgneepilofkeaaStreamFour
namespace Go.Proofs.Ytfgneepilofkeaa
open Go.RowKit Go.Proofs.Ytfgneepilofkeaa.octets Go.Proofs.Ytfgneepilofkeaa.frame Go.Proofs.Ytfgneepilofkeaa.given Go.Proofs.Ytfgneepilofkeaa.stream
set_option linter.unusedVariables false
set_option linter.unusedSimpArgs false

set_option maxRecDepth 100000 in
set_option maxHeartbeats 4000000 in
theorem walks.streamCuts (a1 : Option Addr) (len1 cap1 : Nat) (A : Nat → Option Addr) (L C : Nat → Nat) (Z : Nat → List Int) (a : Option Addr) (len cap : Nat) (z : List Int) (w : World) (w1 : NumRows .u8 w a1 len1 cap1 A L C Z) (w0 : Nums .u8 w a len cap z) :
    Calls Try.prog 3 #[.slice a1 len1 cap1, .slice a len cap] w fun e w' => e = .returned (.bool true) ∧ Below w.heap.size w w' := by
  obtain ⟨Ls, vs, hLl, hG, hP, hlc⟩ := pieces_came w1
  obtain ⟨x, hxl, hx0, hxc⟩ := seen_nums w0
  clear w0 w1
  replace hxl := Lib.hid hxl
  replace hLl := Lib.hid hLl
  go_enter Try.func3, Try.ntmps3
  try dsimp only [List.append]
  go_wp2_with fail
  refine (shown_ok _).mono ?_
  rintro e w1 ⟨rfl, hw1⟩
  go_wp2_with fail
  refine (few_ok a1 len1 cap1 vs Ls w1 hlc hLl.out (hG.keep hw1) (hP.since hw1)).mono ?_
  rintro e w2 ⟨Ap, n, cp, us, rfl, hcp, hpl, hGp, hPp, hb2⟩
  have hn20 : n ≤ 20 := by rw [← hpl]; exact fewL_len Ls
  have h100 := fewL_each Ls
  have hw2 := hw1.trans (hb2.mono hw1.size)
  generalize fewL Ls = Lp at hpl hPp h100
  replace hpl := Lib.hid hpl
  clear hG hP hb2 hw1
  go_wp2_with fail
  refine (joined_ok Ap n cp us Lp w2 hcp hpl.out hn20 hGp hPp h100).mono ?_
  rintro e w3 ⟨v3, rfl, ho3, hb3⟩
  obtain ⟨q, hq⟩ : ∃ q, Lp.flatten.length = q := ⟨_, rfl⟩
  have hq2 := flat_len Lp h100
  rw [hq, hpl.out] at hq2
  obtain ⟨Aq, cq, rfl, hs3, hcq⟩ := own_cap ho3 hq
  have hG3 := hGp.keep hb3
  have hP3 := hPp.since hb3
  have hx3 := hx0.since (hw2.trans (hb3.mono hw2.size))
  have hw3 := hw2.trans (hb3.mono hw2.size)
  have hall : (Lp.take n).flatten = Lp.flatten := by rw [List.take_of_length_le (by rw [hpl.out]; exact Nat.le_refl _)]
  obtain ⟨F, hF⟩ : ∃ F, Lp.flatten = F := ⟨_, rfl⟩
  rw [hF] at hs3 hq hall
  replace hF := Lib.hid hF
  replace hall := Lib.hid hall
  replace hq := Lib.hid hq
  clear ho3 hb3 hGp hPp hx0 hw2
  go_wp2_with fail
  refine (new_ok _).mono ?_
  rintro e w4 ⟨gs, rfl, hS4, hb4⟩
  go_wp2_with fail
  refine (new_ok _).mono ?_
  rintro e w5 ⟨gt, rfl, hT5, hb5⟩
  have h0 : Four ((w5.alloc (.cells #[] 40)).alloc (.cells #[] 40)) (fun _ => True) w3.heap.size gs gt (.slice (some ⟨w5.heap.size, 0, none⟩) 0 0) (.slice (some ⟨w5.heap.size + 1, 0, none⟩) 0 0) [] [] [] [] := by
    have hS5 : Str w5 (fun b => b < w4.heap.size) gs [] := hS4.keep (Keeps.of_below hb5) fun b h _ => h
    have hT5' : Str w5 (fun b => w4.heap.size ≤ b ∧ b < w5.heap.size) gt [] := hT5.mono fun b h q => ⟨q, h⟩
    have ia := (Its.empty w5 (fun b => b = w5.heap.size) rfl).alloc (.cells #[] 40)
    have ib := Its.empty (w5.alloc (.cells #[] 40)) (fun b => b = w5.heap.size + 1) (by simp)
    rw [World.size_alloc] at ib
    have q1 := hS4.1
    have q2 := hS4.lt
    have q3 := hT5.1
    have q4 := hT5.lt
    have q5 := hb5.size
    have q6 := hb4.size
    refine ⟨((hS5.alloc _).alloc _).mono fun b _ h => ⟨trivial, by omega, ?_, ?_⟩, ((hT5'.alloc _).alloc _).mono fun b _ h => ⟨trivial, by omega, ?_, ?_⟩, ia.mono fun b _ h => ⟨trivial, by omega, by omega, ?_⟩, ib.mono fun b _ h => ⟨trivial, by omega, by omega, ?_⟩, by omega, by omega, fun k e => ?_, fun k e => ?_⟩
    all_goals
      simp [Value.ownBlock] at *
      omega
  have hb6 := ((hb4.trans (hb5.mono hb4.size)).alloc (Nat.le_trans hb4.size hb5.size) (.cells #[] 40)).alloc (by rw [World.size_alloc]; exact Nat.le_succ_of_le (Nat.le_trans hb4.size hb5.size)) (.cells #[] 40)
  clear hS4 hT5 hb4 hb5
  go_wp2
  go_loopw [10, 12] (fun va t W => ∃ i : Nat, t = .int .i64 i ∧ i ≤ n ∧ Below w3.heap.size w3 W ∧ Four W (fun _ => True) w3.heap.size gs gt va (.slice (some ⟨w5.heap.size + 1, 0, none⟩) 0 0) (restB (Lp.take i).flatten) [] (itemsB (Lp.take i).flatten) []) (fun _ t _ => n - (intOf t).toNat)
  case atStart => exact ⟨0, rfl, Nat.zero_le _, hb6, by rw [List.take_zero, List.flatten_nil, rest_nil, items_nil]; exact h0⟩
  case round =>
    clear hb6 h0
    obtain ⟨i, rfl, hi, hb, h4⟩ := hrel
    by_cases hin : i = n
    · subst hin
      rw [hall.out] at h4
      obtain ⟨V, hV⟩ : ∃ V, V = wr := ⟨_, rfl⟩
      subst hV
      clear hG3 hP3 h100 hpl
      go_wp2
      go_loopw [11, 13, 14] (fun vb ta ti W => ∃ u j : Nat, ta = .int .i64 u ∧ ti = .int .i64 j ∧ j ≤ u ∧ u ≤ q + 50 ∧ Below w3.heap.size w3 W ∧ Four W (fun _ => True) w3.heap.size gs gt u10 vb (restB F) (restB (F.take u)) (itemsB F) (itemsB (F.take u))) (fun _ ta _ _ => q - (intOf ta).toNat)
      case atStart => exact ⟨0, 0, rfl, rfl, Nat.le_refl _, Nat.zero_le _, hb, by rw [List.take_zero, rest_nil, items_nil]; exact h4⟩
      case round =>
        clear hb h4
        obtain ⟨u, j, rfl, rfl, hju, huq, hb, h4⟩ := hrel
        by_cases hend : q ≤ u
        · have hFu : F.take u = F := List.take_of_length_le (by rw [hq.out]; exact hend)
          rw [hFu] at h4
          have hr := rest_small F
          obtain ⟨r, hrl⟩ : ∃ r, (restB F).length = r := ⟨_, rfl⟩
          have hil := items_len F
          rw [hq.out] at hil
          rw [hrl] at hr
          have hil : (itemsB F).length ≤ 1048576 := by omega
          replace hrl := Lib.hid hrl
          clear hFu
          go_wp2_with fail
          refine (all_ok Aq q cq F _ hq.out hcq (by omega) (hs3.since hb)).mono ?_
          rintro e w7 ⟨v7, rfl, hI7, hb7⟩
          rw [hrl.out]
          have h7 := h4.since hb7
          have hw7 := hw3.trans ((hb.trans (hb7.mono hb.size)).mono hw3.size)
          clear hb7 h4 hb
          go_wp2_with fail
          refine (same_ok _ _ _ _ _ _ hil h7.a h7.b).mono ?_
          rintro e w8 ⟨rfl, hb8⟩
          have h8 := h7.since hb8
          have hI8 := hI7.since hb8
          have hw8 := hw7.trans (hb8.mono hw7.size)
          clear h7 hI7 hb8 hw7
          go_wp2_with fail
          refine (same_ok _ _ _ _ _ _ hil h8.a hI8).mono ?_
          rintro e w9 ⟨rfl, hb9⟩
          have h9 := h8.since hb9
          have hw9 := hw8.trans (hb9.mono hw8.size)
          clear h8 hI8 hb9 hw8
          go_wp2_with fail
          (with_reducible refine (rest_ok gs r _ _ _ h9.s hrl.out).mono ?_)
          rintro e w10 ⟨rfl, rfl⟩
          go_wp2_with fail
          (with_reducible refine (rest_ok gt r _ _ _ h9.t hrl.out).mono ?_)
          rintro e w10 ⟨rfl, rfl⟩
          go_wp2
          go_ret
          exact ⟨by simp; omega, hw9⟩
        · have hlt : u < q := by omega
          clear hend
          by_cases hl0 : len = 0
          · -- 1 byte each
            have hl0' : ¬ (0 : Int) < (len : Int) := by omega
            clear hl0
            have hcutF := take_cut F u 1 (by rw [hq.out]; omega)
            rw [hq.out] at hcutF
            obtain ⟨e, he⟩ : ∃ e, min (u + 1) q = e := ⟨_, rfl⟩
            rw [he] at hcutF
            have em : min ((u : Int) + 1) q = (e : Int) := by omega
            obtain ⟨A', c', k1, k2, k3⟩ := cut_lh Aq q cq u e (by omega) (by omega) u e rfl rfl
            have hsp := k3 wr F (hs3.since hb)
            obtain ⟨d, hd⟩ : ∃ d, e - u = d := ⟨_, rfl⟩
            rw [hd] at hsp hcutF k1 k2
            have hd1 : 0 < d := by omega
            have hd2 : d ≤ 50 := by omega
            have hPl : ((F.drop u).take d).length = d := by rw [List.length_take, List.length_drop, hq.out]; omega
            have hstep := rest_cut F _ u 1 hcutF
            have hitem := items_cut F _ u 1 hcutF
            have hr := rest_small (F.take u)
            have hil := items_len (F.take u)
            rw [List.length_take, hq.out] at hil
            generalize (F.drop u).take d = P at hsp hPl hstep hitem
            have hil2 := items_len (restB (F.take u) ++ P)
            rw [List.length_append, hPl] at hil2
            generalize restB (F.take u) = R at h4 hstep hr hitem hil2
            generalize itemsB (F.take u) = M at h4 hitem hil
            generalize hN : itemsB (R ++ P) = N at hitem hil2
            obtain ⟨y, hy⟩ : ∃ y, N.length = y := ⟨_, rfl⟩
            rw [hy] at hil2
            have hMd : M.length + y ≤ 4398046511104 := by omega
            have hun : u + 1 ≤ q + 50 := by omega
            replace hy := Lib.hid hy
            replace hN := Lib.hid hN
            replace hstep := Lib.hid hstep
            replace hitem := Lib.hid hitem
            replace hPl := Lib.hid hPl
            have hb7 := below_new wr (.cells #[] 5)
            have ho7 := Own.empty wr wr.heap.size (Nat.le_refl _)
            have hs7 := hsp.alloc (.cells #[] 5)
            clear hil hil2 hcutF k3 hd he hsp
            go_wp2_with (at_builtin; refine wpList_append_own_any _ rfl _ _ rfl wr.heap.size _ [] rfl ho7 A' d c' rfl P hPl.out hs7 (by simp [hPl.out]; omega) hb7.size ?_)
            intro v8 w8 ho8 hg8 hat8
            have hb8 := ho7.grew hb7 (Nat.le_refl _) hb7.size hg8
            have ho8 : Own w8 wr.heap.size v8 P := by simpa using ho8
            obtain ⟨go, co, rfl, hgo, hh8⟩ := ho8.held (by rw [hPl.out]; omega)
            rw [hPl.out]
            have hco : d ≤ co := by have := hh8.1; rw [hPl.out] at this; exact this
            have hgo8 := hh8.lt
            have h8 := (h4.keep (E' := fun b => b < wr.heap.size) (Keeps.refl _ _) fun b h _ => h).keep (E' := fun b => b ≠ go) (Keeps.of_below hb8) fun b _ h => by omega
            have hbb := hb.trans (hb8.mono hb.size)
            have hgt : gt ≠ go := h8.t.1.1
            have hw3go : w3.heap.size ≤ go := Nat.le_trans hb.size hgo
            have hss := hh8.seen
            clear ho7 hs7 hg8 hat8 ho8 hb7 h4 hb8 hb
            go_wp2_with fail
            refine (take_ok gt _ R P (some ⟨go, 0, none⟩) d co w8 h8.t hr hPl.out hco (by omega) hss).mono ?_
            rintro e9 w9 ⟨v9, rfl, hI9, hT9, hg9⟩
            rw [hstep.out] at hT9
            rw [hN.out] at hI9
            have hb9 := hbb.grown hg9 hbb.size fun k e => by cases e; exact h8.lot
            have h9 := h8.swap.take (fun b hl => by omega) hT9 hg9
            obtain ⟨A9, c9, rfl, hsrc⟩ := h8.swap.src (fun b hl => by omega) hI9
            have hh9 := hh8.grown hg9 fun e => hgt (by injection e with e; exact e.symm)
            have hz9 := hg9.size
            rw [hy.out]
            clear h8 hbb hT9 hg9 hI9 hss hh8
            go_wp2_with (at_builtin; refine wpList_append_items _ rfl _ _ rfl _ _ M N rfl h9.a A9 y c9 rfl hy.out hsrc hMd (h9.fresh (by omega)) ?_)
            intro v10 w10 hI10 hg10 hat10
            rw [hitem.out] at hI10
            have h10 := h9.app hb9.size hI10 hg10 hat10
            have hb10 := hb9.grown hg10 hb9.size h9.loa
            have hh10 := hh9.grown hg10 fun e => (h9.a.lt e.symm).1.1 rfl
            have hz10 := hg10.size
            clear hI10 hg10 hat10 h9 hb9 hh9 hsrc
            go_wp2
            go_loopw [17] (fun t W => ∃ (f : Nat) (P' : List UInt8), t = .int .i64 f ∧ f ≤ d ∧ Below go w10 W ∧ (∀ b, b ≠ go → W.heap[b]? = w10.heap[b]?) ∧ P'.length = d ∧ Held W go co P') (fun t _ => d - (intOf t).toNat)
            case atStart => exact ⟨0, P, rfl, Nat.zero_le _, Below.refl _ _, fun _ _ => rfl, hPl.out, hh10⟩
            case round =>
              clear hh10
              obtain ⟨f, P', rfl, hf, hbg, hoth, hP'l, hh⟩ := hrel
              by_cases hfd : f = d
              · subst hfd
                have h11 := (h10.keep (E' := fun _ => True) ⟨hbg.size, fun b hb _ => hoth b hb⟩ fun _ _ _ => trivial).swap
                have hb11 := hb10.trans (hbg.mono hw3go)
                go_wp2
                go_roundw
                case rel => exact ⟨u + 1, j + 1, by go_num, by go_num, by omega, by omega, hb11, h11⟩
                case measure => simp [intOf]; omega
              · have hlf : f < d := by omega
                have hfz := hh.frozen f
                have hcl := hh.cell (i := f) (by omega)
                replace hP'l := Lib.hid hP'l
                go_wp2
                go_roundw
                case rel => exact ⟨f + 1, P'.set f 165, by go_num, by omega, hbg.setCell (p := ⟨go, f, none⟩) (Nat.le_refl _) _, fun b hb => (Below.heap_setCell _ _ _ _ hb).trans (hoth b hb), by rw [List.length_set]; exact hP'l.out, hh.set f 165⟩
                case measure => simp [intOf]; omega
          · have hl0' : (0 : Int) < (len : Int) := by omega
            obtain ⟨bx, ox, rfl, hbx, hcx⟩ := hx3.at_ (k := 0) (by rw [hxl.out]; omega)
            obtain ⟨jj, hjj⟩ : ∃ jj, j % len = jj := ⟨_, rfl⟩
            have hjl : jj < len := by rw [← hjj]; exact Nat.mod_lt _ (by omega)
            have ejj : (j : Int) % (len : Int) = (jj : Int) := by rw [← hjj]; exact (Int.natCast_emod j len).symm
            have hjl' : (jj : Int) < (len : Int) := by omega
            have hcx := hcx jj (by rw [hxl.out]; exact hjl)
            obtain ⟨y0, hy0⟩ : ∃ y0, (x[jj]'(by rw [hxl.out]; exact hjl)).toNat = y0 := ⟨_, rfl⟩
            rw [hy0] at hcx
            have hy8 : y0 < 256 := by rw [← hy0]; exact UInt8.toNat_lt _
            have hcx := (hb.cell (p := ⟨bx, ox + jj, none⟩) hbx).trans hcx
            obtain ⟨nn, hnn⟩ : ∃ nn, 1 + y0 % 50 = nn := ⟨_, rfl⟩
            have enn : 1 + (y0 : Int) % 50 = (nn : Int) := by omega
            have hn1 : 1 ≤ nn := by omega
            have hn50 : nn ≤ 50 := by omega
            clear hl0 hjj hy0 hnn
            have hcutF := take_cut F u nn (by rw [hq.out]; omega)
            rw [hq.out] at hcutF
            obtain ⟨e, he⟩ : ∃ e, min (u + nn) q = e := ⟨_, rfl⟩
            rw [he] at hcutF
            have em : min ((u : Int) + nn) q = (e : Int) := by omega
            obtain ⟨A', c', k1, k2, k3⟩ := cut_lh Aq q cq u e (by omega) (by omega) u e rfl rfl
            have hsp := k3 wr F (hs3.since hb)
            obtain ⟨d, hd⟩ : ∃ d, e - u = d := ⟨_, rfl⟩
            rw [hd] at hsp hcutF k1 k2
            have hd1 : 0 < d := by omega
            have hd2 : d ≤ 50 := by omega
            have hPl : ((F.drop u).take d).length = d := by rw [List.length_take, List.length_drop, hq.out]; omega
            have hstep := rest_cut F _ u nn hcutF
            have hitem := items_cut F _ u nn hcutF
            have hr := rest_small (F.take u)
            have hil := items_len (F.take u)
            rw [List.length_take, hq.out] at hil
            generalize (F.drop u).take d = P at hsp hPl hstep hitem
            have hil2 := items_len (restB (F.take u) ++ P)
            rw [List.length_append, hPl] at hil2
            generalize restB (F.take u) = R at h4 hstep hr hitem hil2
            generalize itemsB (F.take u) = M at h4 hitem hil
            generalize hN : itemsB (R ++ P) = N at hitem hil2
            obtain ⟨y, hy⟩ : ∃ y, N.length = y := ⟨_, rfl⟩
            rw [hy] at hil2
            have hMd : M.length + y ≤ 4398046511104 := by omega
            have hun : u + nn ≤ q + 50 := by omega
            replace hy := Lib.hid hy
            replace hN := Lib.hid hN
            replace hstep := Lib.hid hstep
            replace hitem := Lib.hid hitem
            replace hPl := Lib.hid hPl
            have hb7 := below_new wr (.cells #[] 5)
            have ho7 := Own.empty wr wr.heap.size (Nat.le_refl _)
            have hs7 := hsp.alloc (.cells #[] 5)
            clear hil hil2 hcutF k3 hd he hsp
            go_wp2_with (at_builtin; refine wpList_append_own_any _ rfl _ _ rfl wr.heap.size _ [] rfl ho7 A' d c' rfl P hPl.out hs7 (by simp [hPl.out]; omega) hb7.size ?_)
            intro v8 w8 ho8 hg8 hat8
            have hb8 := ho7.grew hb7 (Nat.le_refl _) hb7.size hg8
            have ho8 : Own w8 wr.heap.size v8 P := by simpa using ho8
            obtain ⟨go, co, rfl, hgo, hh8⟩ := ho8.held (by rw [hPl.out]; omega)
            rw [hPl.out]
            have hco : d ≤ co := by have := hh8.1; rw [hPl.out] at this; exact this
            have hgo8 := hh8.lt
            have h8 := (h4.keep (E' := fun b => b < wr.heap.size) (Keeps.refl _ _) fun b h _ => h).keep (E' := fun b => b ≠ go) (Keeps.of_below hb8) fun b _ h => by omega
            have hbb := hb.trans (hb8.mono hb.size)
            have hgt : gt ≠ go := h8.t.1.1
            have hw3go : w3.heap.size ≤ go := Nat.le_trans hb.size hgo
            have hss := hh8.seen
            clear ho7 hs7 hg8 hat8 ho8 hb7 h4 hb8 hb
            go_wp2_with fail
            refine (take_ok gt _ R P (some ⟨go, 0, none⟩) d co w8 h8.t hr hPl.out hco (by omega) hss).mono ?_
            rintro e9 w9 ⟨v9, rfl, hI9, hT9, hg9⟩
            rw [hstep.out] at hT9
            rw [hN.out] at hI9
            have hb9 := hbb.grown hg9 hbb.size fun k e => by cases e; exact h8.lot
            have h9 := h8.swap.take (fun b hl => by omega) hT9 hg9
            obtain ⟨A9, c9, rfl, hsrc⟩ := h8.swap.src (fun b hl => by omega) hI9
            have hh9 := hh8.grown hg9 fun e => hgt (by injection e with e; exact e.symm)
            have hz9 := hg9.size
            rw [hy.out]
            clear h8 hbb hT9 hg9 hI9 hss hh8
            go_wp2_with (at_builtin; refine wpList_append_items _ rfl _ _ rfl _ _ M N rfl h9.a A9 y c9 rfl hy.out hsrc hMd (h9.fresh (by omega)) ?_)
            intro v10 w10 hI10 hg10 hat10
            rw [hitem.out] at hI10
            have h10 := h9.app hb9.size hI10 hg10 hat10
            have hb10 := hb9.grown hg10 hb9.size h9.loa
            have hh10 := hh9.grown hg10 fun e => (h9.a.lt e.symm).1.1 rfl
            have hz10 := hg10.size
            clear hI10 hg10 hat10 h9 hb9 hh9 hsrc
            go_wp2
            go_loopw [17] (fun t W => ∃ (f : Nat) (P' : List UInt8), t = .int .i64 f ∧ f ≤ d ∧ Below go w10 W ∧ (∀ b, b ≠ go → W.heap[b]? = w10.heap[b]?) ∧ P'.length = d ∧ Held W go co P') (fun t _ => d - (intOf t).toNat)
            case atStart => exact ⟨0, P, rfl, Nat.zero_le _, Below.refl _ _, fun _ _ => rfl, hPl.out, hh10⟩
            case round =>
              clear hh10
              obtain ⟨f, P', rfl, hf, hbg, hoth, hP'l, hh⟩ := hrel
              by_cases hfd : f = d
              · subst hfd
                have h11 := (h10.keep (E' := fun _ => True) ⟨hbg.size, fun b hb _ => hoth b hb⟩ fun _ _ _ => trivial).swap
                have hb11 := hb10.trans (hbg.mono hw3go)
                go_wp2
                go_roundw
                case rel => exact ⟨u + nn, j + 1, by go_num, by go_num, by omega, by omega, hb11, h11⟩
                case measure => simp [intOf]; omega
              · have hlf : f < d := by omega
                have hfz := hh.frozen f
                have hcl := hh.cell (i := f) (by omega)
                replace hP'l := Lib.hid hP'l
                go_wp2
                go_roundw
                case rel => exact ⟨f + 1, P'.set f 165, by go_num, by omega, hbg.setCell (p := ⟨go, f, none⟩) (Nat.le_refl _) _, fun b hb => (Below.heap_setCell _ _ _ _ hb).trans (hoth b hb), by rw [List.length_set]; exact hP'l.out, hh.set f 165⟩
                case measure => simp [intOf]; omega
    · have hlt : i < n := by omega
      obtain ⟨b, o, A', c', rfl, hblt, hcell, hc', hs⟩ := hP3.at_ hG3 i (by rw [hpl.out]; exact hlt)
      have hstep := rest_flat Lp i (by rw [hpl.out]; exact hlt)
      have hitem := items_flat Lp i (by rw [hpl.out]; exact hlt)
      have hl1 := h100 _ (List.getElem_mem (show i < Lp.length by rw [hpl.out]; exact hlt))
      obtain ⟨l, hle⟩ : ∃ l, (Lp[i]'(by rw [hpl.out]; exact hlt)) = l := ⟨_, rfl⟩
      obtain ⟨k, hk⟩ : ∃ k, l.length = k := ⟨_, rfl⟩
      rw [hle] at hcell hc' hs hstep hl1 hitem
      rw [hk] at hcell hc' hl1
      have hcell := (hb.cell (p := ⟨b, o + i, none⟩) hblt).trans hcell
      have hs := hs.since hb
      have hr := rest_small (Lp.take i).flatten
      have hil := items_len (Lp.take i).flatten
      have hfl := flat_len (Lp.take i) fun l hl => h100 l (List.mem_of_mem_take hl)
      rw [List.length_take] at hfl
      have hil2 := items_len (restB (Lp.take i).flatten ++ l)
      rw [List.length_append, hk] at hil2
      generalize restB (Lp.take i).flatten = R at h4 hstep hr hitem hil2
      generalize itemsB (Lp.take i).flatten = M at h4 hitem hil
      generalize hN : itemsB (R ++ l) = N at hitem hil2
      obtain ⟨d, hd⟩ : ∃ d, N.length = d := ⟨_, rfl⟩
      rw [hd] at hil2
      have hMd : M.length + d ≤ 4398046511104 := by omega
      replace hd := Lib.hid hd
      replace hN := Lib.hid hN
      replace hstep := Lib.hid hstep
      replace hitem := Lib.hid hitem
      replace hk := Lib.hid hk
      clear hle hin hil hil2 hfl
      go_wp2_with fail
      refine (take_ok gs _ R l A' k c' wr h4.s hr hk.out hc' (by omega) hs).mono ?_
      rintro e w7 ⟨v7, rfl, hI7, hS7, hg7⟩
      rw [hstep.out] at hS7
      rw [hN.out] at hI7
      have hb7 := hb.grown hg7 hb.size fun k e => by cases e; exact h4.los
      have h7 := h4.take (fun _ _ => trivial) hS7 hg7
      obtain ⟨A7, c7, rfl, hsrc⟩ := h4.src (fun _ _ => trivial) hI7
      rw [hd.out]
      clear h4 hb hS7 hg7 hI7 hs hcell
      go_wp2_with (at_builtin; refine wpList_append_items _ rfl _ _ rfl _ _ M N rfl h7.a A7 d c7 rfl hd.out hsrc hMd (h7.fresh trivial) ?_)
      intro v8 w8 hI8 hg8 hat8
      rw [hitem.out] at hI8
      have h8 := h7.app hb7.size hI8 hg8 hat8
      have hb8 := hb7.grown hg8 hb7.size h7.loa
      clear hI8 hg8 hat8 h7 hsrc
      go_wp2
      go_roundw
      case rel => exact ⟨i + 1, by go_num, by omega, hb8, h8⟩
      case measure => simp [intOf]; omega
end Go.Proofs.Ytfgneepilofkeaa
