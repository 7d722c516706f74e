/-
  THE WALK OF 'WindowMoved': it is how far numbers are from each other that matters.
-/
import Derived.Test.YtahfhanibiaimaaWin
import Derived.Test.YtahfhanibiaimaaWinArgs
import Derived.Deep.RegionHeld3
import Derived.Deep.CutRange
namespace Go.Proofs.Ytahfhanibiaimaa.walks
open Go.ChangeShapes Go.WideShapes Go.ChangeAt Go.RowKit Go.Proofs.Ytahfhanibiaimaa.octets Go.Proofs.Ytahfhanibiaimaa.window Go.Proofs.Ytahfhanibiaimaa.given
set_option linter.unusedVariables false
set_option linter.unusedSimpArgs false
set_option maxRecDepth 100000 in
set_option maxHeartbeats 4000000 in
theorem moved_core (H : CodeOk) (a : Option Addr) (len cap : Nat) (z : Nat → Int) (f : Int) (w : World) (hf : 0 ≤ f ∧ f < 4294967296) (hz : ∀ i, i < len → ∃ b o, a = some ⟨b, o, none⟩ ∧ b < w.heap.size ∧ w.cell? ⟨b, o + i, none⟩ = some (.int .u16 (z i)) ∧ 0 ≤ z i ∧ z i < 65536) :
    Calls Try.prog 4 #[.slice a len cap, .int .u32 f] w fun e w' => e = .returned (.bool true) ∧ Below w.heap.size w w' := by
  replace hz := Lib.hid hz
  obtain ⟨far, hfar⟩ : ∃ far, f % 4294901760 = far := ⟨_, rfl⟩
  have hfar' : f.tmod 4294901760 = far := by rw [Int.tmod_eq_emod_of_nonneg hf.1]; exact hfar
  have hf0 : 0 ≤ far := by omega
  have hf1 : far < 4294901760 := by omega
  go_enter Try.func4, Try.ntmps4
  try dsimp only [List.append]
  go_wp2_with fail
  (with_reducible refine (shown_any H _).mono ?_)
  rintro e w1 ⟨rfl, hw1⟩
  have hz1 := hw1.size
  have hA1 := (new_win w1 27).alloc (.cells #[.bool false, .int .i64 0, .int .u64 0] 27)
  have hB1 := new_win (w1.alloc (.cells #[.bool false, .int .i64 0, .int .u64 0] 27)) 27
  have hw2 := (hw1.alloc hz1 (.cells #[.bool false, .int .i64 0, .int .u64 0] 27))
  have hw3 := hw2.alloc hw2.size (.cells #[.bool false, .int .i64 0, .int .u64 0] 27)
  rw [World.size_alloc] at hB1
  clear hw1 hw2
  go_wp2
  obtain ⟨g, hg⟩ : ∃ g, w1.heap.size = g := ⟨_, rfl⟩
  rw [hg] at hA1 hB1 hz1 ⊢
  go_loopw [9] (fun t W => ∃ (i : Nat) (x y : Win), i ≤ 100 ∧ t = .int .i64 i ∧ Below w.heap.size w W ∧ Arr W g (wv x) ∧ Arr W (g + 1) (wv y) ∧ okW x ∧ okW y ∧ x.any = y.any ∧ x.seen = y.seen ∧ (x.any = true → y.high = x.high + far)) (fun t _ => 100 - (intOf t).toNat)
  case atStart => exact ⟨0, zW, zW, by omega, rfl, hw3, hA1, hB1, zW_ok, zW_ok, rfl, rfl, fun h => by cases h⟩
  case round =>
    clear hw3 hA1 hB1
    obtain ⟨i, x, y, hi, rfl, hw, hA, hB, hx, hy, e1, e2, e3⟩ := hrel
    by_cases h1 : i < len
    · by_cases h2 : i < 100
      · obtain ⟨b, o, rfl, hb, hcz, hz0, hz2⟩ := hz.out i h1
        have t1 : (i : Int) < (len : Int) := by omega
        have t2 : (i : Int) < 100 := by omega
        have cz := (hw.cell (p := ⟨b, o + i, none⟩) hb).trans hcz
        generalize z i = n at cz hz0 hz2
        clear hcz
        have hlx := hx.2.1
        obtain ⟨v1, ok, he1⟩ : ∃ v ok, see x n = (v, ok) := ⟨_, _, rfl⟩
        obtain ⟨v2, ok2, he2⟩ : ∃ v ok, see y (n + far) = (v, ok) := ⟨_, _, rfl⟩
        have hmv := see_moved (far := far) hx hy e1 e2 e3 hz0 (by omega) hf0
        have ho1 := see_ok hx n
        have ho2 := see_ok hy (n + far)
        rw [he1, he2] at hmv
        rw [he1] at ho1
        rw [he2] at ho2
        obtain ⟨m1, m2, m3, m4⟩ := hmv
        clear e1 e2 e3
        obtain rfl : ok = ok2 := m1
        replace m2 : v1.any = v2.any := m2
        replace m3 : v1.seen = v2.seen := m3
        replace m4 : v1.any = true → v2.high = v1.high + far := m4
        have k1 := fun W => H.see_at x v1 n ok W hx (by omega) (by omega) he1
        have k2 := fun W => H.see_at y v2 (n + far) ok W hy (by omega) (by omega) he2
        have hS0 : Below w.heap.size w wr ∧ Arr wr g (wv x) ∧ Arr wr (g + 1) (wv y) ∧ wr.cell? ⟨b, o + i, none⟩ = some (.int .u16 n) := ⟨hw, hA, hB, cz⟩
        have keep : ∀ {W W' : World}, (Below w.heap.size w W ∧ Arr W g (wv x) ∧ Arr W (g + 1) (wv y) ∧ W.cell? ⟨b, o + i, none⟩ = some (.int .u16 n)) → Below W.heap.size W W' → Below w.heap.size w W' ∧ Arr W' g (wv x) ∧ Arr W' (g + 1) (wv y) ∧ W'.cell? ⟨b, o + i, none⟩ = some (.int .u16 n) := fun h hb' =>
          ⟨h.1.trans (hb'.mono h.1.size), h.2.1.since hb', h.2.2.1.since hb', (hb'.cell (by have := h.1.size; show b < _; omega)).trans h.2.2.2⟩
        have keepst : ∀ {W W' : World} {q : Nat}, (Below w.heap.size w W ∧ Arr W g (wv x) ∧ Arr W (g + 1) (wv y) ∧ W.cell? ⟨b, o + i, none⟩ = some (.int .u16 n)) → (∀ k, k ≠ q → W'.heap[k]? = W.heap[k]?) → Below q W W' → g + 1 < q → Below w.heap.size w W' ∧ Arr W' g (wv x) ∧ Arr W' (g + 1) (wv y) ∧ W'.cell? ⟨b, o + i, none⟩ = some (.int .u16 n) := fun h ho hb' hq =>
          ⟨h.1.trans (hb'.mono (by omega)), h.2.1.of_block (ho _ (by omega)), h.2.2.1.of_block (ho _ (by omega)), (World.cell?_of_block (ho b (by omega))).trans h.2.2.2⟩
        have hwn : IntKind.i64.wrap n = n := by rw [IntKind.wrap_i64]; omega
        have hwf : IntKind.i64.wrap (n + far) = n + far := by rw [IntKind.wrap_i64]; omega
        replace he1 := ()
        replace he2 := ()
        clear hw hA hB cz
        go_upto_region 8 with fail
        go_cut [10, 11] from 20 to 76 (fun sa sb W => ∃ qn, sa = .pointer (some ⟨qn, 0, none⟩) ∧ sb = .bool ok ∧ g + 1 < qn ∧ (Below w.heap.size w W ∧ Arr W g (wv x) ∧ Arr W (g + 1) (wv y) ∧ W.cell? ⟨b, o + i, none⟩ = some (.int .u16 n)) ∧ Arr W qn (wv v1))
        case first =>
          have hSd : (fun W => Below w.heap.size w W ∧ Arr W g (wv x) ∧ Arr W (g + 1) (wv y) ∧ W.cell? ⟨b, o + i, none⟩ = some (.int .u16 n)) wr.drew := keep hS0 (Below.drew (Below.refl _ _))
          refine wp_region_held_drew (S := (fun W => Below w.heap.size w W ∧ Arr W g (wv x) ∧ Arr W (g + 1) (wv y) ∧ W.cell? ⟨b, o + i, none⟩ = some (.int .u16 n))) (by kernel_rfl) hSd (fun _ => ?_)
          refine wpAnyH_take (i := 0) (oi := Oper.mk (some 31) _ _ _ _ _) (v := (.agg (wv x).toArray)) rfl (by kernel_rfl) (by kernel_rfl) (by kernel_rfl) (fun _ _ _ h => h) (yieldsIf_load_mid (by rfl) _ _ rfl g 0 rfl (wv x) _ (fun W hSW => hSW.2.1.range) Try.underlying27 rfl (by kernel_rfl)) hSd ?_
          simp only [Act.put, List.setIfInBounds_toArray, List.set_cons_zero, List.set_cons_succ]
          try dsimp only
          refine wpAnyH_take (i := 1) (oi := Oper.mk (some 32) _ _ _ _ _) (v := ?_) rfl (by kernel_rfl) (by kernel_rfl) (by kernel_rfl) (fun _ _ _ h => h) (Or.inl ⟨by rfl, ?_⟩) hSd ?_
          rotate_left
          · intro w hSw
            have cz := hSw.2.2.2
            go_simp
            try with_reducible rfl
          simp only [Act.put, List.setIfInBounds_toArray, List.set_cons_zero, List.set_cons_succ]
          try dsimp only
          refine wpAnyH_take (i := 2) (oi := Oper.mk (some 33) _ _ _ _ _) (v := ?_) rfl (by kernel_rfl) (by kernel_rfl) (by kernel_rfl) (fun _ _ _ h => h) (Or.inl ⟨by rfl, ?_⟩) hSd ?_
          rotate_left
          · intro w hSw
            have cz := hSw.2.2.2
            go_simp
            try with_reducible rfl
          simp only [Act.put, List.setIfInBounds_toArray, List.set_cons_zero, List.set_cons_succ]
          try dsimp only
          refine wpAnyH_take (i := 3) (oi := Oper.mk (some 34) _ _ _ _ _) (v := ?_) rfl (by kernel_rfl) (by kernel_rfl) (by kernel_rfl) (fun _ _ _ h => h) (Or.inl ⟨by rfl, ?_⟩) hSd ?_
          rotate_left
          · intro w hSw
            have cz := hSw.2.2.2
            go_simp
            try with_reducible rfl
          simp only [Act.put, List.setIfInBounds_toArray, List.set_cons_zero, List.set_cons_succ]
          try dsimp only
          refine wpAnyH_take (i := 4) (oi := Oper.mk (some 35) _ _ _ _ _) (v := ?_) rfl (by kernel_rfl) (by kernel_rfl) (by kernel_rfl) (fun _ _ _ h => h) (Or.inl ⟨by rfl, ?_⟩) hSd ?_
          rotate_left
          · intro w hSw
            have cz := hSw.2.2.2
            go_simp
            try with_reducible rfl
          simp only [Act.put, List.setIfInBounds_toArray, List.set_cons_zero, List.set_cons_succ]
          try dsimp only
          refine wpAnyH_take (i := 5) (oi := Oper.mk (some 36) _ _ _ _ _) (v := ?_) rfl (by kernel_rfl) (by kernel_rfl) (by kernel_rfl) (fun _ _ _ h => h) (Or.inl ⟨by rfl, ?_⟩) hSd ?_
          rotate_left
          · intro w hSw
            have cz := hSw.2.2.2
            go_simp
            try with_reducible rfl
          simp only [Act.put, List.setIfInBounds_toArray, List.set_cons_zero, List.set_cons_succ]
          try dsimp only
          refine wpAnyH_ready (rs := [6, 10]) (by kernel_rfl) (by simp) ?_
          refine AllReadyH.cons (o := Oper.mk (some 37) _ _ _ _ _) rfl (fun F hF => ?_) (AllReadyH.cons (o := Oper.mk (some 10) _ _ _ _ _) rfl (fun F hF => ?_) AllReadyH.nil)
          · go_simp
            try rw [hwn]
            (with_reducible refine (k1 _).mono ?_)
            rintro e w5 ⟨rfl, hb5⟩
            have hS5 : (fun W => Below w.heap.size w W ∧ Arr W g (wv x) ∧ Arr W (g + 1) (wv y) ∧ W.cell? ⟨b, o + i, none⟩ = some (.int .u16 n)) w5 := keep hSd hb5
            try dsimp only
            refine hF.out _ _ hS5 (fun _ => ?_)
            clear hF F
            refine wpAnyH_take (i := 7) (oi := Oper.mk (some 30) _ _ _ _ _) (v := ?_) rfl (by kernel_rfl) (by kernel_rfl) (by kernel_rfl) (fun _ _ _ h => h) (Or.inl ⟨by rfl, ?_⟩) hS5 ?_
            rotate_left
            · intro w hSw
              go_simp
              try with_reducible rfl
            simp only [Act.put, List.setIfInBounds_toArray, List.set_cons_zero, List.set_cons_succ]
            try dsimp only
            refine wpAnyH_take (i := 8) (oi := Oper.mk (some 38) _ _ _ _ _) (v := ?_) rfl (by kernel_rfl) (by kernel_rfl) (by kernel_rfl) (fun _ _ _ h => h) (Or.inl ⟨by rfl, ?_⟩) hS5 ?_
            rotate_left
            · intro w hSw
              go_simp
              try with_reducible rfl
            simp only [Act.put, List.setIfInBounds_toArray, List.set_cons_zero, List.set_cons_succ]
            try dsimp only
            refine wpAnyH_take (i := 9) (oi := Oper.mk (some 39) _ _ _ _ _) (v := ?_) rfl (by kernel_rfl) (by kernel_rfl) (by kernel_rfl) (fun _ _ _ h => h) (Or.inl ⟨by rfl, ?_⟩) hS5 ?_
            rotate_left
            · intro w hSw
              go_simp
              try with_reducible rfl
            simp only [Act.put, List.setIfInBounds_toArray, List.set_cons_zero, List.set_cons_succ]
            try dsimp only
            refine wpAnyH_ready (rs := [10]) (by kernel_rfl) (by simp) ?_
            refine AllReadyH.cons (o := Oper.mk (some 10) _ _ _ _ _) rfl (fun F hF => ?_) AllReadyH.nil
            go_simp
            have hn6 : Below w5.heap.size w5 (w5.alloc (.cells #[.bool false, .int .i64 0, .int .u64 0] 27)) := below_new _ _
            have hS6 : (fun W => Below w.heap.size w W ∧ Arr W g (wv x) ∧ Arr W (g + 1) (wv y) ∧ W.cell? ⟨b, o + i, none⟩ = some (.int .u16 n)) (w5.alloc (.cells #[.bool false, .int .i64 0, .int .u64 0] 27)) := keep hS5 hn6
            have hN6 := new_win w5 27
            have hq : g + 1 < w5.heap.size := hS5.2.2.1.lt
            try dsimp only
            refine hF.out _ _ hS6 (fun _ => ?_)
            clear hF F
            refine wpAnyH_ready (rs := [11]) (by kernel_rfl) (by simp) ?_
            refine AllReadyH.cons (o := Oper.mk (none) _ _ _ _ _) rfl (fun F hF => ?_) AllReadyH.nil
            refine wp_store_arr (cs' := wv v1) 3 rfl rfl rfl hN6 (by kernel_rfl) rfl rfl (wv_one _) ?_
            intro w8 hN8 ho8 hb8 hs8
            have hS8 : (fun W => Below w.heap.size w W ∧ Arr W g (wv x) ∧ Arr W (g + 1) (wv y) ∧ W.cell? ⟨b, o + i, none⟩ = some (.int .u16 n)) w8 := keepst hS6 ho8 hb8 (by omega)
            try dsimp only
            refine hF.out _ _ hS8 (fun _ => ?_)
            clear hF F
            refine wpAnyH_take (i := 12) (oi := Oper.mk (some 11) _ _ _ _ _) (v := ?_) rfl (by kernel_rfl) (by kernel_rfl) (by kernel_rfl) (fun _ _ _ h => h) (Or.inl ⟨by rfl, ?_⟩) hS8 ?_
            rotate_left
            · intro w hSw
              go_simp
              try with_reducible rfl
            simp only [Act.put, List.setIfInBounds_toArray, List.set_cons_zero, List.set_cons_succ]
            try dsimp only
            refine wpAnyH_done (by kernel_rfl) ?_ _
            go_wp2
            go_meet
            exact ⟨_, rfl, rfl, hq, hS8, hN8⟩
          · go_simp
            obtain ⟨w4, e4⟩ : ∃ w4, w4 = wr.drew := ⟨_, rfl⟩
            have hn4 : Below wr.drew.heap.size wr.drew (wr.drew.alloc (.cells #[.bool false, .int .i64 0, .int .u64 0] 27)) := below_new _ _
            have hS4 : (fun W => Below w.heap.size w W ∧ Arr W g (wv x) ∧ Arr W (g + 1) (wv y) ∧ W.cell? ⟨b, o + i, none⟩ = some (.int .u16 n)) (wr.drew.alloc (.cells #[.bool false, .int .i64 0, .int .u64 0] 27)) := keep hSd hn4
            have hN4 := new_win wr.drew 27
            have hq : g + 1 < wr.drew.heap.size := hSd.2.2.1.lt
            have hq' : g + 1 < wr.heap.size := hq
            try dsimp only
            refine hF.out _ _ hS4 (fun _ => ?_)
            clear hF F
            refine wpAnyH_ready (rs := [6]) (by kernel_rfl) (by simp) ?_
            refine AllReadyH.cons (o := Oper.mk (some 37) _ _ _ _ _) rfl (fun F hF => ?_) AllReadyH.nil
            go_simp
            try rw [hwn]
            (with_reducible refine (k1 _).mono ?_)
            rintro e w5 ⟨rfl, hb5⟩
            have hS5 : (fun W => Below w.heap.size w W ∧ Arr W g (wv x) ∧ Arr W (g + 1) (wv y) ∧ W.cell? ⟨b, o + i, none⟩ = some (.int .u16 n)) w5 := keep hS4 hb5
            have hN5 := hN4.since hb5
            try dsimp only
            refine hF.out _ _ hS5 (fun _ => ?_)
            clear hF F
            refine wpAnyH_take (i := 7) (oi := Oper.mk (some 30) _ _ _ _ _) (v := ?_) rfl (by kernel_rfl) (by kernel_rfl) (by kernel_rfl) (fun _ _ _ h => h) (Or.inl ⟨by rfl, ?_⟩) hS5 ?_
            rotate_left
            · intro w hSw
              go_simp
              try with_reducible rfl
            simp only [Act.put, List.setIfInBounds_toArray, List.set_cons_zero, List.set_cons_succ]
            try dsimp only
            refine wpAnyH_take (i := 8) (oi := Oper.mk (some 38) _ _ _ _ _) (v := ?_) rfl (by kernel_rfl) (by kernel_rfl) (by kernel_rfl) (fun _ _ _ h => h) (Or.inl ⟨by rfl, ?_⟩) hS5 ?_
            rotate_left
            · intro w hSw
              go_simp
              try with_reducible rfl
            simp only [Act.put, List.setIfInBounds_toArray, List.set_cons_zero, List.set_cons_succ]
            try dsimp only
            refine wpAnyH_take (i := 9) (oi := Oper.mk (some 39) _ _ _ _ _) (v := ?_) rfl (by kernel_rfl) (by kernel_rfl) (by kernel_rfl) (fun _ _ _ h => h) (Or.inl ⟨by rfl, ?_⟩) hS5 ?_
            rotate_left
            · intro w hSw
              go_simp
              try with_reducible rfl
            simp only [Act.put, List.setIfInBounds_toArray, List.set_cons_zero, List.set_cons_succ]
            try dsimp only
            refine wpAnyH_ready (rs := [11]) (by kernel_rfl) (by simp) ?_
            refine AllReadyH.cons (o := Oper.mk (none) _ _ _ _ _) rfl (fun F hF => ?_) AllReadyH.nil
            refine wp_store_arr (cs' := wv v1) 3 rfl rfl rfl hN5 (by kernel_rfl) rfl rfl (wv_one _) ?_
            intro w8 hN8 ho8 hb8 hs8
            have hS8 : (fun W => Below w.heap.size w W ∧ Arr W g (wv x) ∧ Arr W (g + 1) (wv y) ∧ W.cell? ⟨b, o + i, none⟩ = some (.int .u16 n)) w8 := keepst hS5 ho8 hb8 (by omega)
            try dsimp only
            refine hF.out _ _ hS8 (fun _ => ?_)
            clear hF F
            refine wpAnyH_take (i := 12) (oi := Oper.mk (some 11) _ _ _ _ _) (v := ?_) rfl (by kernel_rfl) (by kernel_rfl) (by kernel_rfl) (fun _ _ _ h => h) (Or.inl ⟨by rfl, ?_⟩) hS8 ?_
            rotate_left
            · intro w hSw
              go_simp
              try with_reducible rfl
            simp only [Act.put, List.setIfInBounds_toArray, List.set_cons_zero, List.set_cons_succ]
            try dsimp only
            refine wpAnyH_done (by kernel_rfl) ?_ _
            go_wp2
            go_meet
            exact ⟨_, rfl, rfl, hq, hS8, hN8⟩
        case rest =>
        obtain ⟨q, rfl, rfl, hq, hS1, hV1⟩ := hcut
        clear hS0
        have keep2 : ∀ {W W' : World}, (Below w.heap.size w W ∧ Arr W g (wv x) ∧ Arr W (g + 1) (wv y) ∧ W.cell? ⟨b, o + i, none⟩ = some (.int .u16 n) ∧ Arr W q (wv v1)) → Below W.heap.size W W' → (Below w.heap.size w W' ∧ Arr W' g (wv x) ∧ Arr W' (g + 1) (wv y) ∧ W'.cell? ⟨b, o + i, none⟩ = some (.int .u16 n) ∧ Arr W' q (wv v1)) := fun h hb' =>
          have k := keep ⟨h.1, h.2.1, h.2.2.1, h.2.2.2.1⟩ hb'
          ⟨k.1, k.2.1, k.2.2.1, k.2.2.2, h.2.2.2.2.since hb'⟩
        have hS2 : (Below w.heap.size w wc ∧ Arr wc g (wv x) ∧ Arr wc (g + 1) (wv y) ∧ wc.cell? ⟨b, o + i, none⟩ = some (.int .u16 n) ∧ Arr wc q (wv v1)) := ⟨hS1.1, hS1.2.1, hS1.2.2.1, hS1.2.2.2, hV1⟩
        have keepst2 : ∀ {W W' : World} {q2 : Nat}, (Below w.heap.size w W ∧ Arr W g (wv x) ∧ Arr W (g + 1) (wv y) ∧ W.cell? ⟨b, o + i, none⟩ = some (.int .u16 n) ∧ Arr W q (wv v1)) → (∀ k, k ≠ q2 → W'.heap[k]? = W.heap[k]?) → Below q2 W W' → g + 1 < q2 → q ≠ q2 → (Below w.heap.size w W' ∧ Arr W' g (wv x) ∧ Arr W' (g + 1) (wv y) ∧ W'.cell? ⟨b, o + i, none⟩ = some (.int .u16 n) ∧ Arr W' q (wv v1)) := fun h ho hb' hq hqq =>
          have k := keepst ⟨h.1, h.2.1, h.2.2.1, h.2.2.2.1⟩ ho hb' hq
          ⟨k.1, k.2.1, k.2.2.1, k.2.2.2, h.2.2.2.2.of_block (ho _ hqq)⟩
        clear hS1 hV1 k1
        go_upto_region 9 with fail
        go_cut [12, 13] from 20 to 76 (fun sa sb W => ∃ qn, sa = .pointer (some ⟨qn, 0, none⟩) ∧ sb = .bool ok ∧ g + 1 < qn ∧ (Below w.heap.size w W ∧ Arr W g (wv x) ∧ Arr W (g + 1) (wv y) ∧ W.cell? ⟨b, o + i, none⟩ = some (.int .u16 n) ∧ Arr W q (wv v1)) ∧ Arr W qn (wv v2))
        case first =>
          have hSd : (fun W => Below w.heap.size w W ∧ Arr W g (wv x) ∧ Arr W (g + 1) (wv y) ∧ W.cell? ⟨b, o + i, none⟩ = some (.int .u16 n) ∧ Arr W q (wv v1)) wc.drew := keep2 hS2 (Below.drew (Below.refl _ _))
          refine wp_region_held_drew (S := (fun W => Below w.heap.size w W ∧ Arr W g (wv x) ∧ Arr W (g + 1) (wv y) ∧ W.cell? ⟨b, o + i, none⟩ = some (.int .u16 n) ∧ Arr W q (wv v1))) (by kernel_rfl) hSd (fun _ => ?_)
          refine wpAnyH_take (i := 0) (oi := Oper.mk (some 41) _ _ _ _ _) (v := (.agg (wv y).toArray)) rfl (by kernel_rfl) (by kernel_rfl) (by kernel_rfl) (fun _ _ _ h => h) (yieldsIf_load_mid (by rfl) _ _ rfl (g + 1) 0 rfl (wv y) _ (fun W hSW => hSW.2.2.1.range) Try.underlying27 rfl (by kernel_rfl)) hSd ?_
          simp only [Act.put, List.setIfInBounds_toArray, List.set_cons_zero, List.set_cons_succ]
          try dsimp only
          refine wpAnyH_take (i := 1) (oi := Oper.mk (some 42) _ _ _ _ _) (v := ?_) rfl (by kernel_rfl) (by kernel_rfl) (by kernel_rfl) (fun _ _ _ h => h) (Or.inl ⟨by rfl, ?_⟩) hSd ?_
          rotate_left
          · intro w hSw
            have cz := hSw.2.2.2.1
            go_simp
            try with_reducible rfl
          simp only [Act.put, List.setIfInBounds_toArray, List.set_cons_zero, List.set_cons_succ]
          try dsimp only
          refine wpAnyH_take (i := 2) (oi := Oper.mk (some 43) _ _ _ _ _) (v := ?_) rfl (by kernel_rfl) (by kernel_rfl) (by kernel_rfl) (fun _ _ _ h => h) (Or.inl ⟨by rfl, ?_⟩) hSd ?_
          rotate_left
          · intro w hSw
            have cz := hSw.2.2.2.1
            go_simp
            try with_reducible rfl
          simp only [Act.put, List.setIfInBounds_toArray, List.set_cons_zero, List.set_cons_succ]
          try dsimp only
          refine wpAnyH_take (i := 3) (oi := Oper.mk (some 44) _ _ _ _ _) (v := ?_) rfl (by kernel_rfl) (by kernel_rfl) (by kernel_rfl) (fun _ _ _ h => h) (Or.inl ⟨by rfl, ?_⟩) hSd ?_
          rotate_left
          · intro w hSw
            have cz := hSw.2.2.2.1
            go_simp
            try with_reducible rfl
          simp only [Act.put, List.setIfInBounds_toArray, List.set_cons_zero, List.set_cons_succ]
          try dsimp only
          refine wpAnyH_take (i := 4) (oi := Oper.mk (some 45) _ _ _ _ _) (v := ?_) rfl (by kernel_rfl) (by kernel_rfl) (by kernel_rfl) (fun _ _ _ h => h) (Or.inl ⟨by rfl, ?_⟩) hSd ?_
          rotate_left
          · intro w hSw
            have cz := hSw.2.2.2.1
            go_simp
            try with_reducible rfl
          simp only [Act.put, List.setIfInBounds_toArray, List.set_cons_zero, List.set_cons_succ]
          try dsimp only
          refine wpAnyH_take (i := 5) (oi := Oper.mk (some 46) _ _ _ _ _) (v := ?_) rfl (by kernel_rfl) (by kernel_rfl) (by kernel_rfl) (fun _ _ _ h => h) (Or.inl ⟨by rfl, ?_⟩) hSd ?_
          rotate_left
          · intro w hSw
            have cz := hSw.2.2.2.1
            go_simp
            try with_reducible rfl
          simp only [Act.put, List.setIfInBounds_toArray, List.set_cons_zero, List.set_cons_succ]
          try dsimp only
          refine wpAnyH_take (i := 6) (oi := Oper.mk (some 47) _ _ _ _ _) (v := ?_) rfl (by kernel_rfl) (by kernel_rfl) (by kernel_rfl) (fun _ _ _ h => h) (Or.inl ⟨by rfl, ?_⟩) hSd ?_
          rotate_left
          · intro w hSw
            have cz := hSw.2.2.2.1
            go_simp
            try with_reducible rfl
          simp only [Act.put, List.setIfInBounds_toArray, List.set_cons_zero, List.set_cons_succ]
          try dsimp only
          refine wpAnyH_take (i := 7) (oi := Oper.mk (some 48) _ _ _ _ _) (v := ?_) rfl (by kernel_rfl) (by kernel_rfl) (by kernel_rfl) (fun _ _ _ h => h) (Or.inl ⟨by rfl, ?_⟩) hSd ?_
          rotate_left
          · intro w hSw
            have cz := hSw.2.2.2.1
            go_simp
            try with_reducible rfl
          simp only [Act.put, List.setIfInBounds_toArray, List.set_cons_zero, List.set_cons_succ]
          try dsimp only
          refine wpAnyH_ready (rs := [8, 12]) (by kernel_rfl) (by simp) ?_
          refine AllReadyH.cons (o := Oper.mk (some 49) _ _ _ _ _) rfl (fun F hF => ?_) (AllReadyH.cons (o := Oper.mk (some 12) _ _ _ _ _) rfl (fun F hF => ?_) AllReadyH.nil)
          · go_simp
            try rw [hwf]
            (with_reducible refine (k2 _).mono ?_)
            rintro e w5 ⟨rfl, hb5⟩
            have hS5 : (fun W => Below w.heap.size w W ∧ Arr W g (wv x) ∧ Arr W (g + 1) (wv y) ∧ W.cell? ⟨b, o + i, none⟩ = some (.int .u16 n) ∧ Arr W q (wv v1)) w5 := keep2 hSd hb5
            try dsimp only
            refine hF.out _ _ hS5 (fun _ => ?_)
            clear hF F
            refine wpAnyH_take (i := 9) (oi := Oper.mk (some 40) _ _ _ _ _) (v := ?_) rfl (by kernel_rfl) (by kernel_rfl) (by kernel_rfl) (fun _ _ _ h => h) (Or.inl ⟨by rfl, ?_⟩) hS5 ?_
            rotate_left
            · intro w hSw
              go_simp
              try with_reducible rfl
            simp only [Act.put, List.setIfInBounds_toArray, List.set_cons_zero, List.set_cons_succ]
            try dsimp only
            refine wpAnyH_take (i := 10) (oi := Oper.mk (some 50) _ _ _ _ _) (v := ?_) rfl (by kernel_rfl) (by kernel_rfl) (by kernel_rfl) (fun _ _ _ h => h) (Or.inl ⟨by rfl, ?_⟩) hS5 ?_
            rotate_left
            · intro w hSw
              go_simp
              try with_reducible rfl
            simp only [Act.put, List.setIfInBounds_toArray, List.set_cons_zero, List.set_cons_succ]
            try dsimp only
            refine wpAnyH_take (i := 11) (oi := Oper.mk (some 51) _ _ _ _ _) (v := ?_) rfl (by kernel_rfl) (by kernel_rfl) (by kernel_rfl) (fun _ _ _ h => h) (Or.inl ⟨by rfl, ?_⟩) hS5 ?_
            rotate_left
            · intro w hSw
              go_simp
              try with_reducible rfl
            simp only [Act.put, List.setIfInBounds_toArray, List.set_cons_zero, List.set_cons_succ]
            try dsimp only
            refine wpAnyH_ready (rs := [12]) (by kernel_rfl) (by simp) ?_
            refine AllReadyH.cons (o := Oper.mk (some 12) _ _ _ _ _) rfl (fun F hF => ?_) AllReadyH.nil
            go_simp
            have hn6 : Below w5.heap.size w5 (w5.alloc (.cells #[.bool false, .int .i64 0, .int .u64 0] 27)) := below_new _ _
            have hS6 : (fun W => Below w.heap.size w W ∧ Arr W g (wv x) ∧ Arr W (g + 1) (wv y) ∧ W.cell? ⟨b, o + i, none⟩ = some (.int .u16 n) ∧ Arr W q (wv v1)) (w5.alloc (.cells #[.bool false, .int .i64 0, .int .u64 0] 27)) := keep2 hS5 hn6
            have hN6 := new_win w5 27
            have hq : g + 1 < w5.heap.size := hS5.2.2.1.lt
            have hqq : q ≠ w5.heap.size := by have := hS5.2.2.2.2.lt; omega
            try dsimp only
            refine hF.out _ _ hS6 (fun _ => ?_)
            clear hF F
            refine wpAnyH_ready (rs := [13]) (by kernel_rfl) (by simp) ?_
            refine AllReadyH.cons (o := Oper.mk (none) _ _ _ _ _) rfl (fun F hF => ?_) AllReadyH.nil
            refine wp_store_arr (cs' := wv v2) 3 rfl rfl rfl hN6 (by kernel_rfl) rfl rfl (wv_one _) ?_
            intro w8 hN8 ho8 hb8 hs8
            have hS8 : (fun W => Below w.heap.size w W ∧ Arr W g (wv x) ∧ Arr W (g + 1) (wv y) ∧ W.cell? ⟨b, o + i, none⟩ = some (.int .u16 n) ∧ Arr W q (wv v1)) w8 := keepst2 hS6 ho8 hb8 (by omega) hqq
            try dsimp only
            refine hF.out _ _ hS8 (fun _ => ?_)
            clear hF F
            refine wpAnyH_take (i := 14) (oi := Oper.mk (some 13) _ _ _ _ _) (v := ?_) rfl (by kernel_rfl) (by kernel_rfl) (by kernel_rfl) (fun _ _ _ h => h) (Or.inl ⟨by rfl, ?_⟩) hS8 ?_
            rotate_left
            · intro w hSw
              go_simp
              try with_reducible rfl
            simp only [Act.put, List.setIfInBounds_toArray, List.set_cons_zero, List.set_cons_succ]
            try dsimp only
            refine wpAnyH_done (by kernel_rfl) ?_ _
            go_wp2
            go_meet
            exact ⟨_, rfl, rfl, hq, hS8, hN8⟩
          · go_simp
            obtain ⟨w4, e4⟩ : ∃ w4, w4 = wc.drew := ⟨_, rfl⟩
            have hn4 : Below wc.drew.heap.size wc.drew (wc.drew.alloc (.cells #[.bool false, .int .i64 0, .int .u64 0] 27)) := below_new _ _
            have hS4 : (fun W => Below w.heap.size w W ∧ Arr W g (wv x) ∧ Arr W (g + 1) (wv y) ∧ W.cell? ⟨b, o + i, none⟩ = some (.int .u16 n) ∧ Arr W q (wv v1)) (wc.drew.alloc (.cells #[.bool false, .int .i64 0, .int .u64 0] 27)) := keep2 hSd hn4
            have hN4 := new_win wc.drew 27
            have hq : g + 1 < wc.drew.heap.size := hSd.2.2.1.lt
            have hq' : g + 1 < wc.heap.size := hq
            have hqq : q ≠ wc.heap.size := by have : q < wc.heap.size := hSd.2.2.2.2.lt; omega
            try dsimp only
            refine hF.out _ _ hS4 (fun _ => ?_)
            clear hF F
            refine wpAnyH_ready (rs := [8]) (by kernel_rfl) (by simp) ?_
            refine AllReadyH.cons (o := Oper.mk (some 49) _ _ _ _ _) rfl (fun F hF => ?_) AllReadyH.nil
            go_simp
            try rw [hwf]
            (with_reducible refine (k2 _).mono ?_)
            rintro e w5 ⟨rfl, hb5⟩
            have hS5 : (fun W => Below w.heap.size w W ∧ Arr W g (wv x) ∧ Arr W (g + 1) (wv y) ∧ W.cell? ⟨b, o + i, none⟩ = some (.int .u16 n) ∧ Arr W q (wv v1)) w5 := keep2 hS4 hb5
            have hN5 := hN4.since hb5
            try dsimp only
            refine hF.out _ _ hS5 (fun _ => ?_)
            clear hF F
            refine wpAnyH_take (i := 9) (oi := Oper.mk (some 40) _ _ _ _ _) (v := ?_) rfl (by kernel_rfl) (by kernel_rfl) (by kernel_rfl) (fun _ _ _ h => h) (Or.inl ⟨by rfl, ?_⟩) hS5 ?_
            rotate_left
            · intro w hSw
              go_simp
              try with_reducible rfl
            simp only [Act.put, List.setIfInBounds_toArray, List.set_cons_zero, List.set_cons_succ]
            try dsimp only
            refine wpAnyH_take (i := 10) (oi := Oper.mk (some 50) _ _ _ _ _) (v := ?_) rfl (by kernel_rfl) (by kernel_rfl) (by kernel_rfl) (fun _ _ _ h => h) (Or.inl ⟨by rfl, ?_⟩) hS5 ?_
            rotate_left
            · intro w hSw
              go_simp
              try with_reducible rfl
            simp only [Act.put, List.setIfInBounds_toArray, List.set_cons_zero, List.set_cons_succ]
            try dsimp only
            refine wpAnyH_take (i := 11) (oi := Oper.mk (some 51) _ _ _ _ _) (v := ?_) rfl (by kernel_rfl) (by kernel_rfl) (by kernel_rfl) (fun _ _ _ h => h) (Or.inl ⟨by rfl, ?_⟩) hS5 ?_
            rotate_left
            · intro w hSw
              go_simp
              try with_reducible rfl
            simp only [Act.put, List.setIfInBounds_toArray, List.set_cons_zero, List.set_cons_succ]
            try dsimp only
            refine wpAnyH_ready (rs := [13]) (by kernel_rfl) (by simp) ?_
            refine AllReadyH.cons (o := Oper.mk (none) _ _ _ _ _) rfl (fun F hF => ?_) AllReadyH.nil
            refine wp_store_arr (cs' := wv v2) 3 rfl rfl rfl hN5 (by kernel_rfl) rfl rfl (wv_one _) ?_
            intro w8 hN8 ho8 hb8 hs8
            have hS8 : (fun W => Below w.heap.size w W ∧ Arr W g (wv x) ∧ Arr W (g + 1) (wv y) ∧ W.cell? ⟨b, o + i, none⟩ = some (.int .u16 n) ∧ Arr W q (wv v1)) w8 := keepst2 hS5 ho8 hb8 (by omega) hqq
            try dsimp only
            refine hF.out _ _ hS8 (fun _ => ?_)
            clear hF F
            refine wpAnyH_take (i := 14) (oi := Oper.mk (some 13) _ _ _ _ _) (v := ?_) rfl (by kernel_rfl) (by kernel_rfl) (by kernel_rfl) (fun _ _ _ h => h) (Or.inl ⟨by rfl, ?_⟩) hS8 ?_
            rotate_left
            · intro w hSw
              go_simp
              try with_reducible rfl
            simp only [Act.put, List.setIfInBounds_toArray, List.set_cons_zero, List.set_cons_succ]
            try dsimp only
            refine wpAnyH_done (by kernel_rfl) ?_ _
            go_wp2
            go_meet
            exact ⟨_, rfl, rfl, hq, hS8, hN8⟩
        case rest =>
        obtain ⟨q2, rfl, rfl, hq2, hS3, hV2⟩ := hcut
        obtain ⟨hw3, hA3, hB3, cz3, hV1⟩ := hS3
        have d0 := hV1.cell (i := 0) rfl
        have d1 := hV1.cell (i := 1) rfl
        have d2 := hV1.cell (i := 2) rfl
        have f1 := hV2.cell (i := 1) rfl
        have f2 := hV2.cell (i := 2) rfl
        rw [← m3] at f2
        have hvh : v1.high ≤ 4294967295 := ho1.2.1
        have hvh0 : 0 ≤ v1.high := ho1.1
        have hyh : v1.any = true → v2.high = v1.high + far := m4
        clear hS2 keep keepst keep2 keepst2 k2 cz3 hz
        obtain ⟨va, hva⟩ : ∃ va, v1.any = va := ⟨_, rfl⟩
        rw [hva] at d0 hyh
        replace hva := Lib.hid hva
        replace m2 := Lib.hid m2
        replace m4 := ()
        replace m3 := Lib.hid m3
        cases va
        all_goals
          try rw [hyh rfl] at f1
          replace hyh := Lib.hid hyh
          replace ho1 : Unit → _ := fun _ => ho1
          replace ho2 : Unit → _ := fun _ => ho2
          clear hfar hfar' hwn hwf hf hx hy
          go_upto_region 12 with fail
          go_wp2_with (first
            | (guard_target =~ wpList _ _ _ (Oper.mk _ (Op.load 27 _) _ _ _ _ :: _) _ _; refine wpList_load_arr 3 rfl rfl rfl hV1 (by kernel_rfl) rfl ?_)
            | (guard_target =~ wpList _ _ _ (Oper.mk _ (Op.store 27 _ _) _ _ _ _ :: _) _ _; refine wpList_store_arr (cs' := wv v1) 3 rfl rfl rfl rfl hA3 (by kernel_rfl) rfl rfl (wv_one _) ?_))
          intro w4 hA4 ho4 hb4 hs4
          have hB4 := hB3.of_block (ho4 _ (by omega))
          have hV4 := hV2.of_block (ho4 _ (by omega))
          have hw4 := hw3.trans (hb4.mono (by omega))
          clear hA3 hB3 hV1 hV2 hw3 ho4 hb4 hs4 d0 d1 d2 f1 f2
          go_wp2_with (first
            | (guard_target =~ wpList _ _ _ (Oper.mk _ (Op.load 27 _) _ _ _ _ :: _) _ _; refine wpList_load_arr 3 rfl rfl rfl hV4 (by kernel_rfl) rfl ?_)
            | (guard_target =~ wpList _ _ _ (Oper.mk _ (Op.store 27 _ _) _ _ _ _ :: _) _ _; refine wpList_store_arr (cs' := wv v2) 3 rfl rfl rfl rfl hB4 (by kernel_rfl) rfl rfl (wv_one _) ?_))
          intro w5 hB5 ho5 hb5 hs5
          have hA5 := hA4.of_block (ho5 _ (by omega))
          have hw5 := hw4.trans (hb5.mono (by omega))
          clear hA4 hB4 hV4 hw4 ho5 hb5 hs5
          go_wp2
          go_roundw
          case rel => exact ⟨i + 1, v1, v2, by omega, by go_num, hw5, hA5, hB5, ho1 (), ho2 (), m2.out, m3.out, by rw [hva.out]; first | exact hyh.out | exact (fun _ => hyh.out trivial) | (intro h; cases h)⟩
          case measure => simp [intOf]; omega
      · have t1 : (i : Int) < (len : Int) := by omega
        have t2 : ¬ ((i : Int) < 100) := by omega
        clear hz
        go_wp2
        go_ret
        exact ⟨rfl, hw⟩
    · have t1 : ¬ ((i : Int) < (len : Int)) := by omega
      clear hz
      go_wp2
      go_ret
      exact ⟨rfl, hw⟩
theorem moved_given (H : CodeOk) (a : Option Addr) (len cap : Nat) (zs : List Int) (f : Int) (w : World) (h : Nums .u16 w a len cap zs) (hf : (Lit.int .u32 f).wf = true) :
    Calls Try.prog 4 #[.slice a len cap, .int .u32 f] w fun e w' => e = .returned (.bool true) ∧ Below w.heap.size w w' := by
  obtain ⟨z, hz⟩ := nums_16 h
  exact moved_core H a len cap z f w (wf32 hf) hz
end Go.Proofs.Ytahfhanibiaimaa.walks
