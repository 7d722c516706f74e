/-
  CONTRACT OF msg's reference: fits.
-/
import Derived.Test.YtmibgmcgicphoaaMsgNamed
namespace Go.Proofs.Ytmibgmcgicphoaa.msg
open Go.RowKit Go.Proofs.Ytmibgmcgicphoaa.octets Go.Proofs.Ytmibgmcgicphoaa.pack
set_option linter.unusedVariables false
set_option linter.unusedSimpArgs false

theorem mv_cells {w : World} {b : Nat} {m : M} (h : Arr w b (mv m)) : w.cell? ⟨b, 0, none⟩ = some (.int .i64 m.kind) ∧ w.cell? ⟨b, 1, none⟩ = some (.int .i64 m.seq) ∧ w.cell? ⟨b, 2, none⟩ = some (.int .i64 m.role) ∧ w.cell? ⟨b, 3, none⟩ = some (.int .i64 m.to_) ∧ w.cell? ⟨b, 4, none⟩ = some (.int .i64 m.epoch) ∧
    w.cell? ⟨b, 5, none⟩ = some (.int .i64 m.mode) ∧ w.cell? ⟨b, 6, none⟩ = some (.int .i64 m.cls) ∧ w.cell? ⟨b, 7, none⟩ = some (.bool m.now) ∧ w.cell? ⟨b, 8, none⟩ = some (.int .i64 m.x0) ∧ w.cell? ⟨b, 9, none⟩ = some (.int .i64 m.x1) ∧ w.cell? ⟨b, 10, none⟩ = some (.int .i64 m.x2) ∧ w.cell? ⟨b, 11, none⟩ = some (.int .i64 m.x3) :=
  ⟨h.cell rfl, h.cell rfl, h.cell rfl, h.cell rfl, h.cell rfl, h.cell rfl, h.cell rfl, h.cell rfl, h.cell rfl, h.cell rfl, h.cell rfl, h.cell rfl⟩

set_option maxRecDepth 100000 in
set_option maxHeartbeats 2000000 in
theorem fits_ok (m : M) (w : World) : Calls Try.prog 23 #[.agg (mv m).toArray] w fun e w' => e = .returned (.bool (fitsM m)) ∧ Below w.heap.size w w' := by
  obtain ⟨a0, h0⟩ : ∃ b, inI m.x0 (-32768) 32767 = b := ⟨_, rfl⟩
  obtain ⟨a1, h1⟩ : ∃ b, inI m.x1 (-32768) 32767 = b := ⟨_, rfl⟩
  obtain ⟨a2, h2⟩ : ∃ b, inI m.x2 (-32768) 32767 = b := ⟨_, rfl⟩
  obtain ⟨a3, h3⟩ : ∃ b, inI m.x3 (-32768) 32767 = b := ⟨_, rfl⟩
  obtain ⟨bk, hk⟩ : ∃ b, inI m.kind 1 11 = b := ⟨_, rfl⟩
  obtain ⟨bs, hs⟩ : ∃ b, inI m.seq 0 4294967295 = b := ⟨_, rfl⟩
  obtain ⟨be, he⟩ : ∃ b, inI m.epoch 0 65535 = b := ⟨_, rfl⟩
  obtain ⟨br, hr⟩ : ∃ b, inI m.role 0 3 = b := ⟨_, rfl⟩
  obtain ⟨bt, ht⟩ : ∃ b, inI m.to_ 0 4 = b := ⟨_, rfl⟩
  obtain ⟨bm, hm⟩ : ∃ b, inI m.mode 0 4 = b := ⟨_, rfl⟩
  obtain ⟨lo, hlo⟩ : ∃ b : Int, (if m.kind = 11 then 1 else 0) = b := ⟨_, rfl⟩
  obtain ⟨bc, hc⟩ : ∃ b, inI m.cls lo 3 = b := ⟨_, rfl⟩
  have e : fitsM m = ((a0 && a1 && a2 && a3) && (bk && bs && be && br && bt && bm && bc)) := by
    unfold fitsM
    rw [hlo, h0, h1, h2, h3, hk, hs, he, hr, ht, hm, hc]
  rw [e]
  have hA := Arr.new w (mv m) 24
  have hb := below_new w (.cells (mv m).toArray 24)
  obtain ⟨c0, c1, c2, c3, c4, c5, c6, c7, c8, c9, c10, c11⟩ := mv_cells hA
  clear hA e
  replace h0 := Lib.hid h0
  replace h1 := Lib.hid h1
  replace h2 := Lib.hid h2
  replace h3 := Lib.hid h3
  replace hk := Lib.hid hk
  replace hs := Lib.hid hs
  replace he := Lib.hid he
  replace hr := Lib.hid hr
  replace ht := Lib.hid ht
  replace hm := Lib.hid hm
  replace hc := Lib.hid hc
  go_enter Try.func23, Try.ntmps23
  go_wp2
  generalize w.alloc (.cells (mv m).toArray 24) = W1 at hb c0 c1 c2 c3 c4 c5 c6 c7 c8 c9 c10 c11 ⊢
  go_loopw [3] (fun t W => W1 = W ∧ ∃ i : Nat, t = .int .i64 i ∧ (i = 0 ∨ (i = 1 ∧ Hid (a0 = true)) ∨ (i = 2 ∧ Hid (a0 = true ∧ a1 = true)) ∨ (i = 3 ∧ Hid (a0 = true ∧ a1 = true ∧ a2 = true)) ∨ (i = 4 ∧ Hid (a0 = true ∧ a1 = true ∧ a2 = true ∧ a3 = true)))) (fun t _ => 4 - (intOf t).toNat)
  case atStart => exact ⟨rfl, 0, rfl, .inl rfl⟩
  case round =>
    obtain ⟨rfl, i, rfl, rfl | ⟨rfl, p⟩ | ⟨rfl, p⟩ | ⟨rfl, p⟩ | ⟨rfl, p⟩⟩ := hrel
    · simp only [show ((0 : Nat) : Int) = 0 from rfl]
      go_wp2_with fail
      refine (in_ok _ _ _ a0 _ h0.out).mono ?_
      rintro e w' ⟨rfl, rfl⟩
      cases a0
      · go_wp2
        go_ret
        exact ⟨by simp, hb⟩
      · go_wp2
        go_roundw
        case rel => exact ⟨trivial, 1, rfl, .inr (.inl ⟨rfl, Lib.hid trivial⟩)⟩
        case measure => simp [intOf]
    · simp only [show ((1 : Nat) : Int) = 1 from rfl]
      go_wp2_with fail
      refine (in_ok _ _ _ a1 _ h1.out).mono ?_
      rintro e w' ⟨rfl, rfl⟩
      cases a1
      · go_wp2
        go_ret
        exact ⟨by simp, hb⟩
      · go_wp2
        go_roundw
        case rel => exact ⟨trivial, 2, rfl, .inr (.inr (.inl ⟨rfl, Lib.hid ⟨p.out, trivial⟩⟩))⟩
        case measure => simp [intOf]
    · simp only [show ((2 : Nat) : Int) = 2 from rfl]
      go_wp2_with fail
      refine (in_ok _ _ _ a2 _ h2.out).mono ?_
      rintro e w' ⟨rfl, rfl⟩
      cases a2
      · go_wp2
        go_ret
        exact ⟨by simp, hb⟩
      · go_wp2
        go_roundw
        case rel => exact ⟨trivial, 3, rfl, .inr (.inr (.inr (.inl ⟨rfl, Lib.hid ⟨p.out.1, p.out.2, trivial⟩⟩)))⟩
        case measure => simp [intOf]
    · simp only [show ((3 : Nat) : Int) = 3 from rfl]
      go_wp2_with fail
      refine (in_ok _ _ _ a3 _ h3.out).mono ?_
      rintro e w' ⟨rfl, rfl⟩
      cases a3
      · go_wp2
        go_ret
        exact ⟨by simp, hb⟩
      · go_wp2
        go_roundw
        case rel => exact ⟨trivial, 4, rfl, .inr (.inr (.inr (.inr ⟨rfl, Lib.hid ⟨p.out.1, p.out.2.1, p.out.2.2, trivial⟩⟩)))⟩
        case measure => simp [intOf]
    · simp only [show ((4 : Nat) : Int) = 4 from rfl]
      obtain ⟨rfl, rfl, rfl, rfl⟩ := p.out
      have two : ((m.kind == 11) = true ∧ lo = 1) ∨ ((m.kind == 11) = false ∧ lo = 0) := by
        rw [← hlo]
        by_cases h : m.kind = 11
        · exact .inl ⟨by rw [beq_iff_eq]; exact h, if_pos h⟩
        · exact .inr ⟨by rw [beq_eq_false_iff_ne]; exact h, if_neg h⟩
      clear hlo p
      rcases two with ⟨t11, rfl⟩ | ⟨t11, rfl⟩
      all_goals
        go_wp2_with fail
        refine (in_ok _ _ _ bk _ hk.out).mono ?_
        rintro e w' ⟨rfl, rfl⟩
        cases bk
        · go_wp2
          go_ret
          exact ⟨by simp, hb⟩
        go_wp2_with fail
        refine (in_ok _ _ _ bs _ hs.out).mono ?_
        rintro e w' ⟨rfl, rfl⟩
        cases bs
        · go_wp2
          go_ret
          exact ⟨by simp, hb⟩
        go_wp2_with fail
        refine (in_ok _ _ _ be _ he.out).mono ?_
        rintro e w' ⟨rfl, rfl⟩
        cases be
        · go_wp2
          go_ret
          exact ⟨by simp, hb⟩
        go_wp2_with fail
        refine (in_ok _ _ _ br _ hr.out).mono ?_
        rintro e w' ⟨rfl, rfl⟩
        cases br
        · go_wp2
          go_ret
          exact ⟨by simp, hb⟩
        go_wp2_with fail
        refine (in_ok _ _ _ bt _ ht.out).mono ?_
        rintro e w' ⟨rfl, rfl⟩
        cases bt
        · go_wp2
          go_ret
          exact ⟨by simp, hb⟩
        go_wp2_with fail
        refine (in_ok _ _ _ bm _ hm.out).mono ?_
        rintro e w' ⟨rfl, rfl⟩
        cases bm
        · go_wp2
          go_ret
          exact ⟨by simp, hb⟩
        go_wp2_with fail
        refine (in_ok _ _ _ bc _ hc.out).mono ?_
        rintro e w' ⟨rfl, rfl⟩
        cases bc
        · go_wp2
          go_ret
          exact ⟨by simp, hb⟩
        go_wp2
        go_ret
        exact ⟨by simp, hb⟩
end Go.Proofs.Ytmibgmcgicphoaa.msg
