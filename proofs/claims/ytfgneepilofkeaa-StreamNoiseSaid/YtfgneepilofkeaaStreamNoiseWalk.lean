/-
  THE WALK OF StreamNoise.
-/
import Derived.Test.YtfgneepilofkeaaStreamArgs
namespace Go.Proofs.Ytfgneepilofkeaa
open Go.RowKit Go.Proofs.Ytfgneepilofkeaa.octets Go.Proofs.Ytfgneepilofkeaa.frame Go.Proofs.Ytfgneepilofkeaa.given Go.Proofs.Ytfgneepilofkeaa.stream
set_option linter.unusedVariables false
set_option linter.unusedSimpArgs false

set_option maxRecDepth 100000 in
set_option maxHeartbeats 2000000 in
theorem walks.streamNoise (a : Option Addr) (len cap : Nat) (z : List Int) (a1 : Option Addr) (len1 cap1 : Nat) (z1 : List Int) (w : World) (w0 : Nums .u8 w a len cap z) (w1 : Nums .u8 w a1 len1 cap1 z1) :
    Calls Try.prog 7 #[.slice a len cap, .slice a1 len1 cap1] w fun e w' => e = .returned (.bool true) ∧ Below w.heap.size w w' := by
  obtain ⟨x, hxl, hx, hxc⟩ := seen_nums w0
  obtain ⟨y, hyl, hy, hyc⟩ := seen_nums w1
  clear w0 w1
  replace hxl := Lib.hid hxl
  obtain ⟨m, hm⟩ : ∃ m, m = min len1 200 := ⟨_, rfl⟩
  have em : min (len1 : Int) 200 = (m : Int) := by omega
  have hcut := slice_h a1 len1 cap1 m (by omega)
  have hm1 : m ≤ cap1 := by omega
  have hm2 : m ≤ 200 := by omega
  have hy' : Seen w a1 (y.take 200) := hy.take 200
  have hyl' : (y.take 200).length = m := by rw [List.length_take, hyl, hm]; omega
  clear hy hyl hm hyc
  generalize y.take 200 = Y at hy' hyl'
  obtain ⟨k, hkl⟩ : ∃ k, (restB Y).length = k := ⟨_, rfl⟩
  have hkm := (rest_drop Y).1
  have hmark := rest_mark Y
  have hIl := items_len Y
  replace hIl : (itemsB Y).length ≤ 1048576 := by omega
  replace hIl := Lib.hid hIl
  rw [hkl, hyl'] at hkm hmark
  replace hkl := Lib.hid hkl
  replace hmark := Lib.hid hmark
  replace hyl' := Lib.hid hyl'
  go_enter Try.func7, Try.ntmps7
  try dsimp only [List.append]
  go_wp2_with fail
  refine (shown_ok _).mono ?_
  rintro e w1 ⟨rfl, hw1⟩
  have hw2 := hw1.alloc hw1.size (.cells #[] 5)
  have ho2 := Own.empty w1 w.heap.size hw1.size
  clear hw1
  go_wp2
  go_loopw [6, 7] (fun v t W => Below w.heap.size w W ∧ ∃ i : Nat, t = .int .i64 i ∧ i ≤ len ∧ i ≤ 200 ∧ Own W w.heap.size v (calmL (x.take i))) (fun _ t _ => len - (intOf t).toNat)
  case atStart => exact ⟨hw2, 0, rfl, Nat.zero_le _, Nat.zero_le _, ho2⟩
  case round =>
    clear hw2 ho2
    obtain ⟨hw, i, rfl, hi, hi2, ho⟩ := hrel
    by_cases hend : i = len ∨ i = 200
    · have hcase : (¬ (i : Int) < len) ∨ ((i : Int) < len ∧ ¬ (i : Int) < 200) := by omega
      have hcalm := calm_ne (x.take i)
      have hXl : (calmL (x.take i)).length ≤ 200 := Nat.le_trans (calm_len _) (by rw [List.length_take]; omega)
      generalize calmL (x.take i) = X at ho hcalm hXl
      obtain ⟨hXi, hXr⟩ := calm_all hcalm
      have hXa := calm_app X Y hcalm
      obtain ⟨p, hp⟩ : ∃ p, X.length = p := ⟨_, rfl⟩
      obtain ⟨A, c, rfl, hs, hc⟩ := own_cap ho hp
      have hpl : p ≤ 200 := by omega
      replace hp := Lib.hid hp
      replace hXi := Lib.hid hXi
      replace hXr := Lib.hid hXr
      replace hXa := Lib.hid hXa
      clear hend hcalm hXl ho hx
      rcases hcase with t1 | ⟨t1, t2⟩
      all_goals
        go_wp2_with fail
        refine (all_ok A p c X wr hp.out hc (by omega) hs).mono ?_
        rintro e w3 ⟨v3, rfl, hI3, hb3⟩
        rw [hXi.out] at hI3
        rw [hXr.out]
        obtain ⟨A3, c3, rfl, -, -⟩ := hI3.src
        have hw3 := hw.trans (hb3.mono hw.size)
        have hs3 := hs.since hb3
        have hy3 := hy'.since hw3
        simp only [List.length_nil, show ((0 : Nat) : Int) = 0 from rfl]
        clear hI3 hb3 hw
        go_wp2_with fail
        refine (all_ok a1 m cap1 Y _ hyl'.out hm1 (by omega) hy3).mono ?_
        rintro e w4 ⟨v4, rfl, hI4, hb4⟩
        have hw4 := hw3.trans (hb4.mono hw3.size)
        have hs4 := hs3.since hb4
        have hb5 := below_new w4 (.cells #[] 5)
        have ho5 := Own.empty w4 w4.heap.size (Nat.le_refl _)
        have hs5 := hs4.alloc (.cells #[] 5)
        clear hs hs3 hs4 hb4 hw3
        rw [hkl.out]
        go_wp2_with (at_builtin; refine wpList_append_own_any _ rfl _ _ rfl w4.heap.size _ [] rfl ho5 A p c rfl X hp.out hs5 (by simp [hp.out]; omega) hb5.size ?_)
        intro v6 w6 ho6 hg6 hat6
        have hb6 := ho5.grew hb5 (Nat.le_refl _) hb5.size hg6
        have hy6 := hy'.since (hw4.trans (hb6.mono hw4.size))
        clear hb5 ho5 hs5 hg6 hat6
        go_wp2_with (at_builtin; refine wpList_append_own_any _ rfl _ _ rfl w4.heap.size _ X rfl ho6 a1 m cap1 rfl Y hyl'.out hy6 (by rw [hp.out, hyl'.out]; omega) hb6.size ?_)
        intro v7 w7 ho7 hg7 hat7
        have hb7 := ho6.grew hb6 (Nat.le_refl _) hb6.size hg7
        obtain ⟨A7, c7, rfl, hs7, hc7⟩ := own_cap ho7 (k := p + m) (by rw [List.length_append, hp.out, hyl'.out])
        clear hb6 ho6 hy6 hg7 hat7 ho7
        go_wp2_with fail
        refine (all_ok A7 (p + m) c7 (X ++ Y) _ (by rw [List.length_append, hp.out, hyl'.out]) hc7 (by omega) hs7).mono ?_
        rintro e w8 ⟨v8, rfl, hI8, hb8⟩
        rw [hXa.out.1] at hI8
        rw [hXa.out.2, hkl.out]
        have hb8' := hb7.trans (hb8.mono hb7.size)
        have hI48 := hI4.since hb8'
        have hw8 := hw4.trans (hb8'.mono hw4.size)
        have hy8 := hy'.since hw8
        clear hb8 hb8' hb7 hs7 hI4 hw4 hy3
        by_cases hk0 : k = 0
        · subst hk0
          simp only [show ((0 : Nat) : Int) = 0 from rfl]
          go_wp2_with fail
          refine (same_ok _ _ _ _ _ _ (hIl.out) hI48 hI8).mono ?_
          rintro e w9 ⟨rfl, hb9⟩
          have hw9 := hw8.trans (hb9.mono hw8.size)
          go_wp2
          go_ret
          exact ⟨rfl, hw9⟩
        · go_wp2_with fail
          refine (same_ok _ _ _ _ _ _ (hIl.out) hI48 hI8).mono ?_
          rintro e w9 ⟨rfl, hb9⟩
          have hw9 := hw8.trans (hb9.mono hw8.size)
          have hy9 := hy8.since hb9
          obtain ⟨b, o, rfl, hb, hcell⟩ := hy9.at_ (k := m - k) (by rw [hyl'.out]; omega)
          have hcell := hcell (m - k) (by rw [hyl'.out]; omega)
          have hmk := hmark.out hk0
          rw [List.getD_eq_getElem?_getD, List.getElem?_eq_getElem (show m - k < Y.length by rw [hyl'.out]; omega), Option.getD_some] at hmk
          rw [hmk, show (((165 : UInt8).toNat : Nat) : Int) = 165 from rfl] at hcell
          obtain ⟨d, hd⟩ : ∃ d, m - k = d := ⟨_, rfl⟩
          have ed : (m : Int) - k = d := by omega
          rw [hd] at hcell
          have hdm : d < m := by omega
          have hk1 : ((k : Int) == 0) = false := by rw [beq_eq_false_iff_ne]; omega
          have hk2 : ¬ (k : Int) = 0 := by omega
          clear hd hmk hmark hy9
          go_wp2
          go_ret
          exact ⟨rfl, hw9⟩
    · have hlt : i < len := by omega
      have hlt2 : i < 200 := by omega
      have hxl' := hxl.out
      obtain ⟨b, o, rfl, hb, hcell⟩ := hx.at_ (k := i) (by omega)
      obtain ⟨c, hc⟩ : ∃ c, x[i] = c := ⟨_, rfl⟩
      obtain ⟨n, hn⟩ : ∃ n, c.toNat = n := ⟨_, rfl⟩
      have hcell := (hw.cell (p := ⟨b, o + i, none⟩) hb).trans (hcell i (by omega))
      rw [hc, hn] at hcell
      have h165 : c = 165 ↔ n = 165 := by rw [← hn, ← UInt8.toNat_inj]; rfl
      obtain ⟨q1, q2⟩ := calm_step x i (by omega) c hc
      have hz := hw.size
      have hFl : (calmL (x.take i)).length ≤ 200 := Nat.le_trans (calm_len _) (by rw [List.length_take]; omega)
      generalize calmL (x.take i) = F at ho q1 q2 hFl
      have hlit : Seen (wr.alloc (.cells #[.int .u8 (n : Int)] 5)) (some ⟨wr.heap.size, 0, none⟩) [c] := (Held.lit wr [c] _ (by simp [vals, hn]) (by simp [maxLen])).seen
      clear hend hc
      by_cases he : n = 165
      · have q := q2 (h165.2 he)
        subst he
        simp only [show ((165 : Nat) : Int) = 165 from rfl] at hcell
        rw [← q] at ho
        clear q q1 q2 h165 hlit hn
        go_wp2
        go_roundw
        case rel => exact ⟨hw, i + 1, by go_num, by omega, by omega, ho⟩
        case measure => simp [intOf]; omega
      · have q := q1 fun h => he (h165.1 h)
        have t165 : ((n : Int) != 165) = true := by rw [bne_iff_ne]; omega
        have ho1 := ho.alloc (.cells #[.int .u8 (n : Int)] 5)
        have hw1 := hw.alloc hz (.cells #[.int .u8 (n : Int)] 5)
        replace q := Lib.hid q
        clear q1 q2 h165 hn ho hw
        go_wp2_with (at_builtin; refine wpList_append_own_any _ rfl _ _ rfl w.heap.size _ F rfl ho1 _ 1 1 rfl [c] rfl hlit (by simp; omega) hw1.size ?_)
        intro v' w' ho' hg' hat
        have hw' := ho1.grew hw1 (Nat.le_refl _) hw1.size hg'
        rw [← q.out] at ho'
        go_wp2
        go_roundw
        case rel => exact ⟨hw', i + 1, by go_num, by omega, by omega, ho'⟩
        case measure => simp [intOf]; omega
end Go.Proofs.Ytfgneepilofkeaa
