/-
  THE WALK OF StreamFrames.
-/
import Derived.Test.YtfgneepilofkeaaStreamArgs
import Derived.Test.YtfgneepilofkeaaFrameRPut
namespace Go.Proofs.Ytfgneepilofkeaa
open Go.RowKit Go.Proofs.Ytfgneepilofkeaa.octets Go.Proofs.Ytfgneepilofkeaa.frame Go.Proofs.Ytfgneepilofkeaa.given Go.Proofs.Ytfgneepilofkeaa.stream
set_option linter.unusedVariables false
set_option linter.unusedSimpArgs false

/-- the frames, each with what stands behind it -/
def framesL (X : List UInt8) (L : List (List UInt8)) : List UInt8 := (L.map fun l => putB (l.take 32) ++ X).flatten
def wantI (l : List UInt8) : I := ⟨0, l.take 32⟩
theorem frames_step (X : List UInt8) (L : List (List UInt8)) (i : Nat) (h : i < L.length) : framesL X (L.take i) ++ putB (L[i].take 32) ++ X = framesL X (L.take (i + 1)) := by
  rw [framesL, framesL, List.take_succ_eq_append_getElem h, List.map_append, List.flatten_append, List.append_assoc]
  simp
theorem want_step (L : List (List UInt8)) (i : Nat) (h : i < L.length) : (L.take i).map wantI ++ [wantI L[i]] = (L.take (i + 1)).map wantI := by
  rw [List.take_succ_eq_append_getElem h, List.map_append]; rfl
theorem frames_items (X : List UInt8) (hX : ∀ c ∈ X, c ≠ 165) : ∀ L : List (List UInt8), itemsB (framesL X L) = L.map wantI ∧ restB (framesL X L) = []
  | [] => ⟨items_nil, rest_nil⟩
  | l :: L => by
    have ih := frames_items X hX L
    have e : framesL X (l :: L) = putB (l.take 32) ++ (X ++ framesL X L) := by simp [framesL]
    have hp := put_app (l.take 32) (X ++ framesL X L) (by simp; omega)
    have hc := calm_app X (framesL X L) hX
    rw [e, hp.1, hp.2, hc.1, hc.2, ih.1, ih.2]
    exact ⟨rfl, rfl⟩
theorem frames_len (X : List UInt8) (hX : X.length ≤ 50) (L : List (List UInt8)) : (framesL X L).length ≤ 87 * L.length := by
  induction L with
  | nil => simp [framesL]
  | cons l L ih =>
    have e : framesL X (l :: L) = putB (l.take 32) ++ (X ++ framesL X L) := by simp [framesL]
    rw [e, List.length_append, List.length_append, putB_len, List.length_take, List.length_cons]
    omega

set_option maxRecDepth 100000 in
set_option maxHeartbeats 4000000 in
theorem walks.streamFrames (a1 : Option Addr) (len1 cap1 : Nat) (A : Nat → Option Addr) (L C : Nat → Nat) (Z : Nat → List Int) (a : Option Addr) (len cap : Nat) (z : List Int) (w : World) (w1 : NumRows .u8 w a1 len1 cap1 A L C Z) (w0 : Nums .u8 w a len cap z) :
    Calls Try.prog 4 #[.slice a1 len1 cap1, .slice a len cap] w fun e w' => e = .returned (.bool true) ∧ Below w.heap.size w w' := by
  obtain ⟨Ls, vs, hLl, hG, hP, hlc⟩ := pieces_came w1
  obtain ⟨x, hxl, hx0, hxc⟩ := seen_nums w0
  clear w0 w1
  replace hxl := Lib.hid hxl
  replace hLl := Lib.hid hLl
  go_enter Try.func4, Try.ntmps4
  try dsimp only [List.append]
  go_wp2_with fail
  refine (shown_ok _).mono ?_
  rintro e w1 ⟨rfl, hw1⟩
  go_wp2_with fail
  refine (few_ok a1 len1 cap1 vs Ls w1 hlc hLl.out (hG.keep hw1) (hP.since hw1)).mono ?_
  rintro e w2 ⟨Ap, n, cp, us, rfl, hcp, hpl, hGp, hPp, hb2⟩
  have hn20 : n ≤ 20 := by rw [← hpl]; exact fewL_len Ls
  have hw2 := hw1.trans (hb2.mono hw1.size)
  generalize fewL Ls = Lp at hpl hPp
  have hall : Lp.take n = Lp := List.take_of_length_le (by rw [hpl]; exact Nat.le_refl _)
  replace hpl := Lib.hid hpl
  replace hall := Lib.hid hall
  have hx := hx0.since hw2
  have hw3 := below_new w2 (.cells #[] 5)
  have ho3 := Own.empty w2 w2.heap.size (Nat.le_refl _)
  clear hG hP hb2 hw1 hx0
  go_wp2
  go_loopw [7, 8] (fun v t W => Below w2.heap.size w2 W ∧ ∃ i : Nat, t = .int .i64 i ∧ i ≤ len ∧ i ≤ 50 ∧ Own W w2.heap.size v (calmL (x.take i))) (fun _ t _ => len - (intOf t).toNat)
  case atStart => exact ⟨hw3, 0, rfl, Nat.zero_le _, Nat.zero_le _, ho3⟩
  case round =>
    clear hw3 ho3
    obtain ⟨hw, i, rfl, hi, hi2, ho⟩ := hrel
    by_cases hend : i = len ∨ i = 50
    · have hcase : (¬ (i : Int) < len) ∨ ((i : Int) < len ∧ ¬ (i : Int) < 50) := by omega
      have hcalm := calm_ne (x.take i)
      have hXl : (calmL (x.take i)).length ≤ 50 := Nat.le_trans (calm_len _) (by rw [List.length_take]; omega)
      generalize calmL (x.take i) = X at ho hcalm hXl
      have hfi := frames_items X hcalm Lp
      have hca := calm_app X (framesL X Lp) hcalm
      rw [hfi.1, hfi.2] at hca
      obtain ⟨p, hp⟩ : ∃ p, X.length = p := ⟨_, rfl⟩
      obtain ⟨Ac, cc, rfl, hs, hc⟩ := own_cap ho hp
      have hpl50 : p ≤ 50 := by omega
      have hfl := fun j => frames_len X hXl (Lp.take j)
      replace hfl := Lib.hid hfl
      replace hp := Lib.hid hp
      replace hca := Lib.hid hca
      have hGw := hGp.keep hw
      have hPw := hPp.since hw
      have hWw := hw2.trans (hw.mono hw2.size)
      clear hend hcalm hXl ho hx hfi hGp hPp hw hw2
      obtain ⟨V, hV⟩ : ∃ V, V = wr := ⟨_, rfl⟩
      subst hV
      rcases hcase with t1 | ⟨t1, t2⟩
      all_goals
        have hb0 := (below_new V (.cells #[] 5)).alloc (by simp) (.cells #[] 40)
        have hoA := (Own.empty V V.heap.size (Nat.le_refl _)).alloc (.cells #[] 40)
        have hIw := Its.empty (V.alloc (.cells #[] 5)) (fun b => (Value.slice (some ⟨V.heap.size, 0, none⟩) 0 0).ownBlock ≠ some b) (by simp [Value.ownBlock])
        rw [World.size_alloc] at hIw
        go_wp2
        go_loopw [9, 10, 11] (fun va vw t W => ∃ j : Nat, t = .int .i64 j ∧ j ≤ n ∧ Below V.heap.size V W ∧ Own W V.heap.size va (framesL X (Lp.take j)) ∧ Its W (fun b => va.ownBlock ≠ some b) vw ((Lp.take j).map wantI) ∧ ∀ k, vw.ownBlock = some k → V.heap.size ≤ k) (fun _ _ t _ => n - (intOf t).toNat)
        case atStart => exact ⟨0, rfl, Nat.zero_le _, hb0, hoA, hIw, fun k e => by simp [Value.ownBlock] at e; omega⟩
        case round =>
          clear hb0 hoA hIw
          obtain ⟨j, rfl, hj, hb, hoA, hIw, hvw⟩ := hrel
          by_cases hjn : j = n
          · subst hjn
            rw [hall.out] at hoA hIw
            have hfj := hfl.out j
            rw [hall.out, hpl.out] at hfj
            generalize framesL X Lp = F at hoA hca hfj
            have hwl : (Lp.map wantI).length ≤ 1048576 := by rw [List.length_map, hpl.out]; omega
            generalize Lp.map wantI = M at hIw hca hwl
            obtain ⟨q, hq⟩ : ∃ q, F.length = q := ⟨_, rfl⟩
            obtain ⟨Af, cf, rfl, hsf, hcf⟩ := own_cap hoA hq
            have hq2 : q ≤ 2000 := by omega
            replace hq := Lib.hid hq
            have hb5 := below_new wr (.cells #[] 5)
            have ho5 := Own.empty wr wr.heap.size (Nat.le_refl _)
            have hs5 := (hs.since hb).alloc (.cells #[] 5)
            clear hoA hfj hvw hGw hPw
            go_wp2_with (at_builtin; refine wpList_append_own_any _ rfl _ _ rfl wr.heap.size _ [] rfl ho5 Ac p cc rfl X hp.out hs5 (by simp [hp.out]; omega) hb5.size ?_)
            intro v6 w6 ho6 hg6 hat6
            have hb6 := ho5.grew hb5 (Nat.le_refl _) hb5.size hg6
            have hs6 := hsf.since hb6
            clear hb5 ho5 hs5 hg6 hat6
            go_wp2_with (at_builtin; refine wpList_append_own_any _ rfl _ _ rfl wr.heap.size _ X rfl ho6 Af q cf rfl F hq.out hs6 (by rw [hp.out, hq.out]; omega) hb6.size ?_)
            intro v7 w7 ho7 hg7 hat7
            have hb7 := ho6.grew hb6 (Nat.le_refl _) hb6.size hg7
            obtain ⟨A7, c7, rfl, hs7, hc7⟩ := own_cap ho7 (k := p + q) (by rw [List.length_append, hp.out, hq.out])
            clear hb6 ho6 hs6 hg7 hat7 ho7 hsf
            go_wp2_with fail
            refine (all_ok A7 (p + q) c7 (X ++ F) _ (by rw [List.length_append, hp.out, hq.out]) hc7 (by omega) hs7).mono ?_
            rintro e w8 ⟨v8, rfl, hI8, hb8⟩
            rw [hca.out.1] at hI8
            rw [hca.out.2]
            have hb8' := hb7.trans (hb8.mono hb7.size)
            have hIw8 := hIw.since hb8'
            have hb8V := hb.trans (hb8'.mono hb.size)
            simp only [List.length_nil, show ((0 : Nat) : Int) = 0 from rfl]
            clear hb8 hb8' hb7 hs7 hIw
            go_wp2_with fail
            refine (same_ok _ _ _ _ M _ hwl hI8 hIw8).mono ?_
            rintro e w9 ⟨rfl, hb9⟩
            have hw9 := hWw.trans ((hb8V.trans (hb9.mono hb8V.size)).mono hWw.size)
            go_wp2
            go_ret
            exact ⟨rfl, hw9⟩
          · have hlt : j < n := by omega
            obtain ⟨b, o, A', c', rfl, hblt, hcell, hc', hsl⟩ := hPw.at_ hGw j (by rw [hpl.out]; exact hlt)
            have hstep := frames_step X Lp j (by rw [hpl.out]; exact hlt)
            have hwant := want_step Lp j (by rw [hpl.out]; exact hlt)
            have hfj := hfl.out j
            rw [List.length_take] at hfj
            obtain ⟨l, hle⟩ : ∃ l, (Lp[j]'(by rw [hpl.out]; exact hlt)) = l := ⟨_, rfl⟩
            obtain ⟨k, hk⟩ : ∃ k, l.length = k := ⟨_, rfl⟩
            rw [hle] at hcell hc' hsl hstep hwant
            rw [hk] at hcell hc'
            obtain ⟨m, hm⟩ : ∃ m, m = min k 32 := ⟨_, rfl⟩
            have em : min (k : Int) 32 = (m : Int) := by omega
            have hcut := slice_h A' k c' m (by omega)
            have hm2 : m ≤ 32 := by omega
            have hmc : m ≤ c' := by omega
            have hcell : ∀ q, (wr.drewN q).cell? ⟨b, o + j, none⟩ = some (.slice A' k c') := fun q => (hb.cell (p := ⟨b, o + j, none⟩) hblt).trans hcell
            have hsl := hsl.take 32
            have hll : (l.take 32).length = m := by rw [List.length_take, hk, hm]; omega
            have hwi : wantI l = ⟨0, l.take 32⟩ := rfl
            rw [hwi] at hwant
            generalize l.take 32 = Y at hsl hll hstep hwant
            replace hll := Lib.hid hll
            replace hstep := Lib.hid hstep
            replace hwant := Lib.hid hwant
            have hfj : (framesL X (Lp.take j)).length ≤ 2000 := by omega
            have hwl : ((Lp.take j).map wantI).length ≤ 20 := by rw [List.length_map, List.length_take]; omega
            generalize framesL X (Lp.take j) = F at hoA hstep hfj
            generalize (Lp.take j).map wantI = M at hIw hwant hwl
            clear hle hk hm hwi hjn
            go_wp2_with fail
            go_quiet (fail)
            have hb := below_drawn hb nq
            have hoA : Own (wr.drewN nq) V.heap.size u9 F := hoA
            have hIw : Its (wr.drewN nq) (fun b => u9.ownBlock ≠ some b) u10 M := hIw.since ⟨rfl, rfl, rfl, Nat.le_refl _, fun _ _ => rfl⟩
            clear hcell
            generalize wr.drewN nq = W1 at hb hoA hIw ⊢
            go_wp2_with fail
            refine (rput_ok A' m c' Y _ hll.out hm2 (hsl.since hb)).mono ?_
            rintro e w5 ⟨v5, rfl, ho5, hb5⟩
            obtain ⟨A5, c5, rfl, hs5, hc5⟩ := own_cap ho5 (k := m + 5) (by rw [putB_len, hll.out])
            have hoA5 := hoA.since hb5
            have hI5 := hIw.since hb5
            have hbA5 := hb.trans (hb5.mono hb.size)
            have hPl : Hid ((putB Y).length = m + 5) := Lib.hid (by rw [putB_len, hll.out])
            clear hoA hIw hb5 hb ho5
            go_wp2_with (at_builtin; refine wpList_append_own_any _ rfl _ _ rfl V.heap.size _ F rfl hoA5 A5 (m + 5) c5 rfl (putB Y) hPl.out hs5 (by rw [hPl.out]; omega) hbA5.size ?_)
            intro v6 w6 ho6 hg6 hat6
            have hb6 := hoA5.grew hbA5 (Nat.le_refl _) hbA5.size hg6
            have hI6 : Its w6 (fun b => v6.ownBlock ≠ some b) u10 M := hI5.keep (Keeps.of_grown hg6 fun b _ h e => h e.symm) fun b hl h e => by
              rcases hat6 with e' | e'
              · exact h (e' ▸ e)
              · rw [e'] at e; cases e; omega
            have hs6 := hs.since hb6
            clear hI5 hg6 hat6 hoA5 hbA5 hs5
            go_wp2_with (at_builtin; refine wpList_append_own_any _ rfl _ _ rfl V.heap.size _ (F ++ putB Y) rfl ho6 Ac p cc rfl X hp.out hs6 (by rw [List.length_append, hPl.out, hp.out]; omega) hb6.size ?_)
            intro v7 w7 ho7 hg7 hat7
            have ho7 : Own w7 V.heap.size v7 (F ++ putB Y ++ X) := by rw [List.append_assoc]; simpa using ho7
            rw [hstep.out] at ho7
            have hb7 := ho6.grew hb6 (Nat.le_refl _) hb6.size hg7
            have hI7 : Its w7 (fun b => v7.ownBlock ≠ some b) u10 M := hI6.keep (Keeps.of_grown hg7 fun b _ h e => h e.symm) fun b hl h e => by
              rcases hat7 with e' | e'
              · exact h (e' ▸ e)
              · rw [e'] at e; cases e; omega
            have hsb : SeenB w7 (fun b => (fun b => v7.ownBlock ≠ some b) b ∧ u10.ownBlock ≠ some b) A' Y := (SeenB.of_seen hsl).keep (Keeps.of_below hb7) fun b _ h => ⟨fun e => by have := (ho7.lt e).1; omega, fun e => by have := hvw b e; omega⟩
            have hsrc := Src.lit w7 _ ⟨0, Y⟩ A' c' hsb m hll.out
            have hI8 := hI7.alloc (.cells #[.int .i64 0, .slice A' m c'] 40)
            have ho8 := ho7.alloc (.cells #[.int .i64 0, .slice A' m c'] 40)
            have hb8 := hb7.alloc hb7.size (.cells #[.int .i64 0, .slice A' m c'] 40)
            have hBn : v7.ownBlock ≠ some (w7.alloc (.cells #[.int .i64 0, .slice A' m c'] 40)).heap.size := fun e => by have := (ho8.lt e).2; omega
            clear hI6 hI7 ho6 hs6 hg7 hat7 hsb hb6 ho7
            go_wp2_with (at_builtin; refine wpList_append_items _ rfl _ _ rfl _ _ M [⟨0, Y⟩] rfl hI8 _ 1 1 rfl rfl hsrc (by omega) hBn ?_)
            intro v9 w9 hI9 hg9 hat9
            rw [hwant.out] at hI9
            have hb9 := hb8.grown hg9 hb8.size hvw
            have ho9 := ho8.grown hg9 fun g e e' => (hI8.lt e'.symm).1 e
            have hv9 : ∀ k, v9.ownBlock = some k → V.heap.size ≤ k := fun k e => by
              rcases hat9 with e' | e'
              · exact hvw k (e' ▸ e)
              · rw [e'] at e; cases e; simpa using hb8.size
            go_wp2
            go_roundw
            case rel => exact ⟨j + 1, by go_num, by omega, hb9, ho9, hI9, hv9⟩
            case measure => simp [intOf]; omega
    · have hlt : i < len := by omega
      have hlt2 : i < 50 := by omega
      have hxl' := hxl.out
      obtain ⟨b, o, rfl, hb, hcell⟩ := hx.at_ (k := i) (by omega)
      obtain ⟨c, hc⟩ : ∃ c, x[i] = c := ⟨_, rfl⟩
      obtain ⟨n, hn⟩ : ∃ n, c.toNat = n := ⟨_, rfl⟩
      have hcell := (hw.cell (p := ⟨b, o + i, none⟩) hb).trans (hcell i (by omega))
      rw [hc, hn] at hcell
      have h165 : c = 165 ↔ n = 165 := by rw [← hn, ← UInt8.toNat_inj]; rfl
      obtain ⟨q1, q2⟩ := calm_step x i (by omega) c hc
      have hz := hw.size
      have hFl : (calmL (x.take i)).length ≤ 50 := Nat.le_trans (calm_len _) (by rw [List.length_take]; omega)
      generalize calmL (x.take i) = F at ho q1 q2 hFl
      have hlit : Seen (wr.alloc (.cells #[.int .u8 (n : Int)] 5)) (some ⟨wr.heap.size, 0, none⟩) [c] := (Held.lit wr [c] _ (by simp [vals, hn]) (by simp [maxLen])).seen
      clear hend hc
      by_cases he : n = 165
      · have q := q2 (h165.2 he)
        subst he
        simp only [show ((165 : Nat) : Int) = 165 from rfl] at hcell
        rw [← q] at ho
        clear q q1 q2 h165 hlit hn
        go_wp2
        go_roundw
        case rel => exact ⟨hw, i + 1, by go_num, by omega, by omega, ho⟩
        case measure => simp [intOf]; omega
      · have q := q1 fun h => he (h165.1 h)
        have t165 : ((n : Int) != 165) = true := by rw [bne_iff_ne]; omega
        have ho1 := ho.alloc (.cells #[.int .u8 (n : Int)] 5)
        have hw1 := hw.alloc hz (.cells #[.int .u8 (n : Int)] 5)
        replace q := Lib.hid q
        clear q1 q2 h165 hn ho hw
        go_wp2_with (at_builtin; refine wpList_append_own_any _ rfl _ _ rfl w2.heap.size _ F rfl ho1 _ 1 1 rfl [c] rfl hlit (by simp; omega) hw1.size ?_)
        intro v' w' ho' hg' hat
        have hw' := ho1.grew hw1 (Nat.le_refl _) hw1.size hg'
        rw [← q.out] at ho'
        go_wp2
        go_roundw
        case rel => exact ⟨hw', i + 1, by go_num, by omega, by omega, ho'⟩
        case measure => simp [intOf]; omega
end Go.Proofs.Ytfgneepilofkeaa
