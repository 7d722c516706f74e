/-
  THE CONTRACT OF msg's split: what all fields take, one behind the other.
-/
import Derived.Test.YtmibgmcgicphoaaMsgJoin
import Derived.Deep.RegionHeld3
import Derived.BigQuiet
import Derived.Deep.QuietTactic
import Derived.Laws.Cover3
namespace Go.Proofs.Ytmibgmcgicphoaa.msg
open Go.RowKit Go.Proofs.Ytmibgmcgicphoaa.octets Go.Proofs.Ytmibgmcgicphoaa.pack
set_option linter.unusedVariables false
set_option linter.unusedSimpArgs false
variable {S : Type} {enc : S → List Value} {good : S → Prop} {g : Nat}

theorem elem_u8m : (Try.prog).elem 29 = 5 := by simp [Program.elem, Try.underlying29]
theorem under_u8m : (Try.prog).underlying 29 = some (.slice ((Try.prog).elem 29)) := by rw [elem_u8m]; exact Try.underlying29
theorem below_grown {w w' : World} (h : Below w.heap.size w w') (r : Option Nat) : w.grownBy w' r := ⟨h.os, h.tape, h.output, h.size, fun k hk _ => h.block k hk⟩
/-- what lies at A reads as l, and lies elsewhere than in block g -/
def SeenN (g : Nat) (w : World) (A : Option Addr) (l : List UInt8) : Prop := Seen w A l ∧ ∀ a, A = some a → a.block ≠ g
theorem SeenN.grown {w w' : World} {A : Option Addr} {l : List UInt8} (h : SeenN g w A l) (hg : w.grownBy w' (some g)) : SeenN g w' A l := ⟨h.1.grown hg fun a e => ne_some' (h.2 a e), h.2⟩
  where ne_some' {x : Nat} (h : x ≠ g) : some x ≠ some g := fun e => h (Option.some.inj e)
theorem seen_drop {w : World} {A : Option Addr} {l : List UInt8} (h : Seen w A l) (i : Nat) : Seen w (A.map (·.add i)) (l.drop i) := by
  intro hn
  have hi : i < l.length := by
    rcases Nat.lt_or_ge i l.length with h0 | h0
    · exact h0
    · exact absurd (List.drop_of_length_le h0) hn
  obtain ⟨b, o, rfl, hb, hc⟩ := h.at_ hi
  refine ⟨b, o + i, ?_, hb, fun j hj => ?_⟩
  · simp only [Option.map_some, Addr.add]
    split
    · rename_i h0; subst h0; rfl
    · rfl
  · have hj' : i + j < l.length := by simp at hj; omega
    rw [Nat.add_assoc, hc _ hj', List.getElem_drop]
/-- 'b[i:]' -/
theorem cut_rest (g : Nat) (A : Option Addr) (n c i : Nat) (hi : i ≤ n) (hn : n ≤ c) : ∃ A' c', (∀ W, (Instr.slice 29 (.slice A n c) (some (.int .i64 (i : Int))) none none).run Try.prog W = .ok (.slice A' (n - i) c') W) ∧ n - i ≤ c' ∧
    ∀ (W : World) (l : List UInt8), l.length = n → SeenN g W A l → SeenN g W A' (l.drop i) := by
  by_cases h0 : c = i
  · refine ⟨A, c - i, fun W => ?_, by omega, fun W l hl h => ⟨?_, h.2⟩⟩
    · rw [run_slice_l W _ _ _ _ under_u8m .i64 _ (by omega) (by omega), elem_u8m, size_u8]
      simp [Result.andThen, sliced, h0]
    · rw [List.drop_of_length_le (by omega)]
      exact Seen.none_ _ _
  · refine ⟨A.map (·.add i), c - i, fun W => ?_, by omega, fun W l _ h => ⟨seen_drop h.1 i, fun a e => ?_⟩⟩
    · rw [run_slice_l W _ _ _ _ under_u8m .i64 _ (by omega) (by omega), elem_u8m, size_u8]
      simp [Result.andThen, sliced, h0]
    · cases A with
      | none => cases e
      | some a' =>
        simp only [Option.map_some, Option.some.injEq] at e
        subst e
        have := h.2 a' rfl
        unfold Addr.add
        split <;> simpa using this
theorem splitL_drop (ds : List (FD S)) (i : Nat) (h : i < ds.length) (l : List UInt8) (s : S) : splitL (ds.drop i) l s = if l.length < ds[i].size then none else if (ds[i].take (l.take ds[i].size) s).1 then splitL (ds.drop (i + 1)) (l.drop ds[i].size) (ds[i].take (l.take ds[i].size) s).2 else none := by
  rw [List.drop_eq_getElem_cons h]
  rfl
/-- what split tells: whether it may be; if so, what has been taken -/
def Took (enc : S → List Value) (good : S → Prop) (g : Nat) (w : World) (r : Option S) (e : Ending) (w' : World) : Prop :=
  ∃ ok, e = .returned (.bool ok) ∧ w.grownBy w' (some g) ∧ (match r with | some s => ok = true ∧ good s ∧ Arr w' g (enc s) | none => ok = false)
set_option maxRecDepth 100000 in
set_option maxHeartbeats 4000000 in
theorem split_ok (ds : List (FD S)) (s : S) (hs : good s) (base n c m d : Nat) (A A' : Option Addr) (l : List UInt8) (w : World) (hn : ds.length = n) (hn8 : n ≤ 1048576) (hpos : ds ≠ []) (hA' : ∀ a, A' = some a → a.block ≠ g) (hbase : g < base) (hO : Src3 enc good g base w none A' ds) (hA : Arr w g (enc s))
    (hAg : SeenN g w A l) (hl : l.length = m) (hm : m ≤ c) (hm2 : m ≤ 1048576) (hsz : ∀ d ∈ ds, 0 < d.size) :
    Calls Try.prog 28 #[.slice A m c, .slice A' n d] w (Took enc good g w (splitL ds l s)) := by
  have hat := Lib.hid (fun (i : Nat) (hi : i < ds.length) => hO.at_ hi)
  have hnpos : 0 < n := by rw [← hn]; exact List.length_pos_iff.2 hpos
  replace hn := Lib.hid hn
  replace hl := Lib.hid hl
  replace hA' := Lib.hid hA'
  clear hO
  have hfin : ∃ r, splitL ds l s = r := ⟨_, rfl⟩
  obtain ⟨r, hr⟩ := hfin
  rw [hr]
  replace hr : Unit → splitL ds l s = r := fun _ => hr
  go_enter Try.func28, Try.ntmps28
  go_wp2
  go_loopw [0, 9] (fun v t W => ∃ (i mi ci : Nat) (Ai : Option Addr) (li : List UInt8) (si : S), i ≤ n ∧ t = .int .i64 i ∧ v = .slice Ai mi ci ∧ li.length = mi ∧ mi ≤ ci ∧ mi ≤ 1048576 ∧ SeenN g W Ai li ∧ good si ∧ Arr W g (enc si) ∧ w.grownBy W (some g) ∧ splitL (ds.drop i) li si = r) (fun _ t _ => n - (intOf t).toNat)
  case atStart => exact ⟨0, m, c, A, l, s, Nat.zero_le _, rfl, rfl, hl.out, hm, hm2, hAg, hs, hA, World.grownBy.refl _ _, hr ()⟩
  case round =>
    clear hs hA hAg hm hm2 hl hr
    obtain ⟨i, mi, ci, Ai, li, si, hi, rfl, rfl, hlm, hmc, hm2, hse, hgs, hA, hw, hr⟩ := hrel
    by_cases hlt : i < n
    · have hids : i < ds.length := by rw [hn.out]; exact hlt
      obtain ⟨b, o, us, rfl, hb, hul, hF, hcell⟩ := hat.out i hids
      have hbg := hA'.out _ rfl
      have hst := splitL_drop ds i hids li si
      have hdp := hsz _ (List.getElem_mem hids)
      generalize ds[i] = dd at hF hst hdp
      rw [hr] at hst
      have hw' : ∀ {W : World}, Below wr.heap.size wr W → Keeps (fun b => base ≤ b ∧ none ≠ some b) w W := fun hb => (Keeps.of_grown hw (fun h => by omega)).trans (Keeps.of_below hb)
      have hrow : wr.rangeAt b (o + i * 3) us := fun j v hv => (hw.cell (hcell j v hv) (fun e => hbg (Option.some.inj e)))
      obtain ⟨p, lp, q, lq, rfl, ep, eq, hput, htake⟩ := hF
      clear hcell hput ep hul
      have hgl := hA.lt
      have hb3 : Below wr.heap.size wr (wr.alloc (.cells #[.int .i64 (dd.size : Int), .func (.func p) #[] lp, .func (.func q) #[] lq] 66)) := (Below.refl _ _).alloc (Nat.le_refl _) _
      have hN := Arr.new wr [.int .i64 (dd.size : Int), .func (.func p) #[] lp, .func (.func q) #[] lq] 66
      have cN0 := hN.cell (i := 0) rfl
      have cN2 := hN.cell (i := 2) rfl
      have hW3 := hw' hb3
      by_cases hshort : mi < dd.size
      · rw [if_pos (by omega)] at hst
        subst hst
        have t1 : ((mi : Int) < (dd.size : Int)) := by omega
        have hw3 := hw.trans (below_grown hb3 _)
        have c0 : ∀ qq, ((wr.alloc (.cells #[.int .i64 (dd.size : Int), .func (.func p) #[] lp, .func (.func q) #[] lq] 66)).drewN qq).cell? ⟨wr.heap.size, 0, none⟩ = some (.int .i64 (dd.size : Int)) := fun qq => cN0
        clear htake hw' hW3 hse hA hr cN0 cN2 hN hw hb3 hdp
        go_wp2_with (guard_target =~ wpList _ _ _ (Oper.mk _ (Op.load 66 _) _ _ _ _ :: _) _ _; refine wpList_load_mid rfl _ _ rfl b (o + i * 3) rfl _ _ hrow field_row rfl (by kernel_rfl) ?_)
        clear hrow
        go_quiet (fail)
        go_wp2
        go_ret
        exact ⟨_, rfl, grown_drewN hw3 _, rfl⟩
      · rw [if_neg (by omega)] at hst
        have t1 : ¬ ((mi : Int) < (dd.size : Int)) := by omega
        have hcut := slice_h Ai mi ci dd.size (by omega)
        have htl : (li.take dd.size).length = dd.size := by rw [List.length_take]; omega
        have hcall := Lib.hid (htake (wr.alloc (.cells #[.int .i64 (dd.size : Int), .func (.func p) #[] lp, .func (.func q) #[] lq] 66)).drew si Ai ci (li.take dd.size) (hW3.trans (Keeps.of_below (Below.drew (Below.refl _ _)))) hgs ((hA.since hb3).drew) htl ((hse.1.since hb3).take _) hse.2)
        obtain ⟨A2, c2, hrest, hc2, hse2⟩ := cut_rest g Ai mi ci dd.size (by omega) hmc
        have hw3 := hw.trans (below_grown hb3 _)
        have hS3 := (hse.grown (below_grown hb3 (some g)))
        replace hS3 := hse2 _ _ hlm hS3
        obtain ⟨ok, hok⟩ : ∃ ok, (dd.take (li.take dd.size) si).1 = ok := ⟨_, rfl⟩
        rw [hok] at hcall hst
        clear htake hw' hW3 hse hr hw
        go_wp2_with (guard_target =~ wpList _ _ _ (Oper.mk _ (Op.load 66 _) _ _ _ _ :: _) _ _; refine wpList_load_mid rfl _ _ rfl b (o + i * 3) rfl _ _ hrow field_row rfl (by kernel_rfl) ?_)
        clear hrow
        have hSd : (fun W => W.cell? ⟨wr.heap.size, 0, none⟩ = some (.int .i64 (dd.size : Int)) ∧ W.cell? ⟨wr.heap.size, 2, none⟩ = some (.func (.func q) #[] lq)) (wr.alloc (.cells #[.int .i64 (dd.size : Int), .func (.func p) #[] lp, .func (.func q) #[] lq] 66)).drew := ⟨cN0, cN2⟩
        refine wp_region_held_drew (S := (fun W => W.cell? ⟨wr.heap.size, 0, none⟩ = some (.int .i64 (dd.size : Int)) ∧ W.cell? ⟨wr.heap.size, 2, none⟩ = some (.func (.func q) #[] lq))) (by kernel_rfl) hSd (fun _ => ?_)
        refine wpAnyH_take (i := 0) (oi := Oper.mk (some 13) _ _ _ _ _) (v := ?_) rfl (by kernel_rfl) (by kernel_rfl) (by kernel_rfl) (fun _ _ _ h => h) (Or.inl ⟨by rfl, ?_⟩) hSd ?_
        rotate_left
        · intro w hSw
          obtain ⟨k0, k2⟩ := hSw
          go_simp
          try with_reducible rfl
        simp only [Act.put, List.setIfInBounds_toArray, List.set_cons_zero, List.set_cons_succ]
        try dsimp only
        refine wpAnyH_take (i := 1) (oi := Oper.mk (some 14) _ _ _ _ _) (v := ?_) rfl (by kernel_rfl) (by kernel_rfl) (by kernel_rfl) (fun _ _ _ h => h) (Or.inl ⟨by rfl, ?_⟩) hSd ?_
        rotate_left
        · intro w hSw
          obtain ⟨k0, k2⟩ := hSw
          go_simp
          try with_reducible rfl
        simp only [Act.put, List.setIfInBounds_toArray, List.set_cons_zero, List.set_cons_succ]
        try dsimp only
        refine wpAnyH_take (i := 2) (oi := Oper.mk (some 15) _ _ _ _ _) (v := ?_) rfl (by kernel_rfl) (by kernel_rfl) (by kernel_rfl) (fun _ _ _ h => h) (Or.inl ⟨by rfl, ?_⟩) hSd ?_
        rotate_left
        · intro w hSw
          obtain ⟨k0, k2⟩ := hSw
          go_simp
          try with_reducible rfl
        simp only [Act.put, List.setIfInBounds_toArray, List.set_cons_zero, List.set_cons_succ]
        try dsimp only
        refine wpAnyH_take (i := 3) (oi := Oper.mk (some 16) _ _ _ _ _) (v := ?_) rfl (by kernel_rfl) (by kernel_rfl) (by kernel_rfl) (fun _ _ _ h => h) (Or.inl ⟨by rfl, ?_⟩) hSd ?_
        rotate_left
        · intro w hSw
          obtain ⟨k0, k2⟩ := hSw
          go_simp
          try with_reducible rfl
        simp only [Act.put, List.setIfInBounds_toArray, List.set_cons_zero, List.set_cons_succ]
        try dsimp only
        refine wpAnyH_take (i := 4) (oi := Oper.mk (some 17) _ _ _ _ _) (v := ?_) rfl (by kernel_rfl) (by kernel_rfl) (by kernel_rfl) (fun _ _ _ h => h) (Or.inl ⟨by rfl, ?_⟩) hSd ?_
        rotate_left
        · intro w hSw
          obtain ⟨k0, k2⟩ := hSw
          go_simp
          try with_reducible rfl
        simp only [Act.put, List.setIfInBounds_toArray, List.set_cons_zero, List.set_cons_succ]
        try dsimp only
        refine wpAnyH_take (i := 5) (oi := Oper.mk (some 18) _ _ _ _ _) (v := ?_) rfl (by kernel_rfl) (by kernel_rfl) (by kernel_rfl) (fun _ _ _ h => h) (Or.inl ⟨by rfl, ?_⟩) hSd ?_
        rotate_left
        · intro w hSw
          obtain ⟨k0, k2⟩ := hSw
          go_simp
          try with_reducible rfl
        simp only [Act.put, List.setIfInBounds_toArray, List.set_cons_zero, List.set_cons_succ]
        try dsimp only
        refine wpAnyH_take (i := 6) (oi := Oper.mk (some 19) _ _ _ _ _) (v := ?_) rfl (by kernel_rfl) (by kernel_rfl) (by kernel_rfl) (fun _ _ _ h => h) (Or.inl ⟨by rfl, ?_⟩) hSd ?_
        rotate_left
        · intro w hSw
          obtain ⟨k0, k2⟩ := hSw
          go_simp
          try with_reducible rfl
        simp only [Act.put, List.setIfInBounds_toArray, List.set_cons_zero, List.set_cons_succ]
        try dsimp only
        refine wpAnyH_take (i := 7) (oi := Oper.mk (some 20) _ _ _ _ _) (v := ?_) rfl (by kernel_rfl) (by kernel_rfl) (by kernel_rfl) (fun _ _ _ h => h) (Or.inl ⟨by rfl, ?_⟩) hSd ?_
        rotate_left
        · intro w hSw
          obtain ⟨k0, k2⟩ := hSw
          go_simp
          try with_reducible rfl
        simp only [Act.put, List.setIfInBounds_toArray, List.set_cons_zero, List.set_cons_succ]
        try dsimp only
        refine wpAnyH_take (i := 8) (oi := Oper.mk (some 21) _ _ _ _ _) (v := ?_) rfl (by kernel_rfl) (by kernel_rfl) (by kernel_rfl) (fun _ _ _ h => h) (Or.inl ⟨by rfl, ?_⟩) hSd ?_
        rotate_left
        · intro w hSw
          obtain ⟨k0, k2⟩ := hSw
          go_simp
          try with_reducible rfl
        simp only [Act.put, List.setIfInBounds_toArray, List.set_cons_zero, List.set_cons_succ]
        try dsimp only
        refine wpAnyH_take (i := 9) (oi := Oper.mk (some 22) _ _ _ _ _) (v := ?_) rfl (by kernel_rfl) (by kernel_rfl) (by kernel_rfl) (fun _ _ _ h => h) (Or.inl ⟨by rfl, ?_⟩) hSd ?_
        rotate_left
        · intro w hSw
          obtain ⟨k0, k2⟩ := hSw
          go_simp
          try with_reducible rfl
        simp only [Act.put, List.setIfInBounds_toArray, List.set_cons_zero, List.set_cons_succ]
        try dsimp only
        refine wpAnyH_take (i := 10) (oi := Oper.mk (some 23) _ _ _ _ _) (v := ?_) rfl (by kernel_rfl) (by kernel_rfl) (by kernel_rfl) (fun _ _ _ h => h) (Or.inl ⟨by rfl, ?_⟩) hSd ?_
        rotate_left
        · intro w hSw
          obtain ⟨k0, k2⟩ := hSw
          go_simp
          try with_reducible rfl
        simp only [Act.put, List.setIfInBounds_toArray, List.set_cons_zero, List.set_cons_succ]
        try dsimp only
        refine wpAnyH_take (i := 11) (oi := Oper.mk (some 24) _ _ _ _ _) (v := ?_) rfl (by kernel_rfl) (by kernel_rfl) (by kernel_rfl) (fun _ _ _ h => h) (Or.inl ⟨by rfl, ?_⟩) hSd ?_
        rotate_left
        · intro w hSw
          obtain ⟨k0, k2⟩ := hSw
          go_simp
          try with_reducible rfl
        simp only [Act.put, List.setIfInBounds_toArray, List.set_cons_zero, List.set_cons_succ]
        try dsimp only
        refine wpAnyH_ready (rs := [12]) (by kernel_rfl) (by simp) ?_
        refine AllReadyH.cons (o := Oper.mk (some 25) _ _ _ _ _) rfl (fun F hF => ?_) AllReadyH.nil
        go_simp
        refine hcall.out.mono ?_
        rintro e w4 ⟨rfl, hg4, hA4, hgr4⟩
        have hk : wr.heap.size ≠ g := by omega
        have hS4 : (fun W => W.cell? ⟨wr.heap.size, 0, none⟩ = some (.int .i64 (dd.size : Int)) ∧ W.cell? ⟨wr.heap.size, 2, none⟩ = some (.func (.func q) #[] lq)) w4 := ⟨hgr4.cell hSd.1 (fun e => hk (Option.some.inj e)), hgr4.cell hSd.2 (fun e => hk (Option.some.inj e))⟩
        have hw4 := (grown_drewN hw3 1).trans hgr4
        have hse4 := (show SeenN g (wr.alloc (.cells #[.int .i64 (dd.size : Int), .func (.func p) #[] lp, .func (.func q) #[] lq] 66)).drew A2 _ from hS3).grown hgr4
        clear hSd hcall hgr4 hw3 hS3 hse2 hb3 hN cN0 cN2 hA
        try dsimp only
        refine hF.out _ _ hS4 (fun _ => ?_)
        clear hF F
        refine wpAnyH_take (i := 13) (oi := Oper.mk (some 26) _ _ _ _ _) (v := ?_) rfl (by kernel_rfl) (by kernel_rfl) (by kernel_rfl) (fun _ _ _ h => h) (Or.inl ⟨by rfl, ?_⟩) hS4 ?_
        rotate_left
        · intro w hSw
          obtain ⟨k0, k2⟩ := hSw
          go_simp
          try with_reducible rfl
        simp only [Act.put, List.setIfInBounds_toArray, List.set_cons_zero, List.set_cons_succ]
        try dsimp only
        refine wpAnyH_take (i := 14) (oi := Oper.mk (some 27) _ _ _ _ _) (v := ?_) rfl (by kernel_rfl) (by kernel_rfl) (by kernel_rfl) (fun _ _ _ h => h) (Or.inl ⟨by rfl, ?_⟩) hS4 ?_
        rotate_left
        · intro w hSw
          obtain ⟨k0, k2⟩ := hSw
          go_simp
          try with_reducible rfl
        simp only [Act.put, List.setIfInBounds_toArray, List.set_cons_zero, List.set_cons_succ]
        try dsimp only
        refine wpAnyH_done (by kernel_rfl) ?_ _
        have k0 := hS4.1
        cases ok with
        | false =>
          rw [if_neg (by simp)] at hst
          subst hst
          go_wp2
          go_ret
          exact ⟨_, rfl, hw4, rfl⟩
        | true =>
          rw [if_pos rfl] at hst
          replace hst : Unit → _ := fun _ => hst
          replace hok := Lib.hid hok
          go_wp2
          go_roundw
          case rel => exact ⟨i + 1, mi - dd.size, c2, A2, li.drop dd.size, _, by omega, by go_num, rfl, by rw [List.length_drop]; omega, hc2, by omega, hse4, hg4, hA4, hw4, (hst ()).symm⟩
          case measure => simp [intOf]; omega
    · obtain rfl : i = n := by omega
      have e : ds.drop i = [] := List.drop_of_length_le (by rw [hn.out]; exact Nat.le_refl _)
      rw [e] at hr
      have t1 : (0 : Int) < (i : Int) := by omega
      obtain ⟨bb, hbb⟩ : ∃ bb, ((mi : Int) == 0) = bb := ⟨_, rfl⟩
      have hr' : r = if bb = true then some si else none := by
        rw [← hr, ← hbb]
        show (if li = [] then some si else none) = _
        by_cases h0 : li = []
        · have : mi = 0 := by rw [← hlm, h0]; rfl
          rw [if_pos h0, if_pos (by rw [this]; rfl)]
        · have : mi ≠ 0 := fun e0 => h0 (List.eq_nil_of_length_eq_zero (by omega))
          rw [if_neg h0, if_neg (by simp; omega)]
      clear hr hlm hse
      go_wp2
      go_ret
      refine ⟨_, rfl, hw, ?_⟩
      rw [hr']
      cases bb
      · exact rfl
      · exact ⟨rfl, hgs, hA⟩
end Go.Proofs.Ytmibgmcgicphoaa.msg
