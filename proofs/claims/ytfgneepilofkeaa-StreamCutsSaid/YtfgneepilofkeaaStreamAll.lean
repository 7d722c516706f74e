/-
  THE CONTRACT OF stream's All.
-/
import Derived.Test.YtfgneepilofkeaaItems
namespace Go.Proofs.Ytfgneepilofkeaa.stream
open Go.RowKit Go.Proofs.Ytfgneepilofkeaa.octets Go.Proofs.Ytfgneepilofkeaa.frame
set_option linter.unusedVariables false
set_option linter.unusedSimpArgs false

def slen : Value → Nat
  | .slice _ n _ => n
  | _ => 0

set_option maxRecDepth 100000 in
set_option maxHeartbeats 2000000 in
theorem all_ok (A : Option Addr) (n c : Nat) (l : List UInt8) (w : World) (hl : l.length = n) (hc : n ≤ c) (hn : n ≤ 1048576) (hs : Seen w A l) :
    Calls Try.prog 13 #[.slice A n c] w fun e w' => ∃ v, e = .returned (.tuple #[v, .int .i64 ((restB l).length : Int)]) ∧ Its w' (fun b => w.heap.size ≤ b) v (itemsB l) ∧ Below w.heap.size w w' := by
  generalize hI : itemsB l = I0 
  generalize hR : restB l = R0 
  replace hI := Lib.hid hI
  replace hR := Lib.hid hR
  go_enter Try.func13, Try.ntmps13
  go_wp2
  go_step3
  go_wp2
  go_step3
  go_wp2
  go_loopw [0, 4] (fun b v W => Below w.heap.size w W ∧ ∃ (A : Option Addr) (n c : Nat) (r : List UInt8) (done : List I), b = .slice A n c ∧ Hid (r.length = n) ∧ n ≤ c ∧ n ≤ 1048576 ∧ Seen w A r ∧ Its W (fun k => w.heap.size ≤ k) v done ∧ done.length + n ≤ 1048576 ∧ Hid (I0 = done ++ itemsB r) ∧ Hid (R0 = restB r)) (fun b _ _ => slen b)
  case atStart => exact ⟨Below.refl _ _, A, n, c, l, [], rfl, Lib.hid hl, hc, hn, hs, Its.nil _ _, by simpa using hn, Lib.hid hI.out.symm, Lib.hid hR.out.symm⟩
  case round =>
    obtain ⟨hw, A, n, c, r, done, rfl, hl, hc, hn, hs, hit, hd, h1, h2⟩ := hrel
    -- WAYS
    rcases next_kinds r with e | ⟨s, e⟩ | ⟨s, b, e⟩ | ⟨k, e⟩
    · have hk : (nextB r).kind = 0 := by rw [e]; rfl
      have hI' : I0 = done := by rw [h1.out, items_wait hk, List.append_nil]
      have hR' : R0.length = n := by rw [h2.out, rest_wait hk]; exact hl.out
      replace hI' := Lib.hid hI'
      replace hR' := Lib.hid hR'
      clear h1 h2
      go_wp2_with fail
      refine (next_at A n c r wait wr hl.out hc hn (hs.since hw) e).mono ?_
      rintro e' w2 ⟨Bb, cb, rfl, ho, hb2⟩
      have hF2 := new_zf w2 48
      go_wp2_with (guard_target =~ wpList _ _ _ (Oper.mk _ (Op.store _ _ _) _ _ _ _ :: _) _ _; refine wpList_store_arr (cs' := fv 0 0 0 (.slice Bb 0 cb)) 4 rfl rfl rfl rfl hF2 (by kernel_rfl) rfl rfl (fv_one _ _ _ _ _ _) ?_)
      intro w3 hF3 ho3 hb3 hs3
      have hb := (hb2.alloc hb2.size (.cells #[.int .i64 0, .int .i64 0, .int .i64 0, .slice none 0 0] 48)).trans (hb3.mono hb2.size)
      have hw3 := hw.trans (hb.mono hw.size)
      have hit3 := hit.since hb
      obtain ⟨a0, a1, a2, a3⟩ := fv_cells hF3
      generalize w2.heap.size = g at a0 a1 a2 a3 ⊢
      clear hF2 hF3 ho3 hb3 hs3 hb2 hw hit
      go_wp2
      rw [Exit.noGoto_ret]
      go_ret2
      exact ⟨u4, by rw [hR'.out]; rfl, by rw [hI'.out]; exact hit3, hw3⟩
    · obtain ⟨q1, q2, q3, q4⟩ := goes_on h1.out h2.out e (by simp [rej])
      simp only [itemsOf, rej] at q1 q2 q3 q4
      have hlr := hl.out
      replace q3 := Lib.hid q3
      replace q4 := Lib.hid q4
      clear h1 h2
      go_wp2_with fail
      refine (next_at A n c r ⟨1, s, 0, []⟩ wr hl.out hc hn (hs.since hw) e).mono ?_
      rintro e' w2 ⟨Bb, cb, rfl, ho, hb2⟩
      have hF2 := new_zf w2 48
      go_wp2_with (guard_target =~ wpList _ _ _ (Oper.mk _ (Op.store _ _ _) _ _ _ _ :: _) _ _; refine wpList_store_arr (cs' := fv 1 s 0 (.slice Bb 0 cb)) 4 rfl rfl rfl rfl hF2 (by kernel_rfl) rfl rfl (fv_one _ _ _ _ _ _) ?_)
      intro w3 hF3 ho3 hb3 hs3
      have hb := (hb2.alloc hb2.size (.cells #[.int .i64 0, .int .i64 0, .int .i64 0, .slice none 0 0] 48)).trans (hb3.mono hb2.size)
      have hw3 := hw.trans (hb.mono hw.size)
      have hit3 := hit.since hb
      obtain ⟨a0, a1, a2, a3⟩ := fv_cells hF3
      generalize w2.heap.size = g at a0 a1 a2 a3 ⊢
      clear hF2 hF3 ho3 hb3 hs3 hb2 hw hit
      obtain ⟨A', c', k1, k2, k3⟩ := cut_l A n c s (by omega) hc s rfl
      have hs' := k3 w r hl.out hs
      clear k3
      have hd' : (r.drop s).length = n - s := by rw [List.length_drop, hlr]
      go_wp2
      go_roundw
      case rel => exact ⟨hw3, A', n - s, c', r.drop s, done, rfl, Lib.hid hd', k2, by omega, hs', hit3, by omega, Lib.hid (by rw [q3.out]; simp), q4⟩
      case measure => simp [slen]; omega
    · obtain ⟨q1, q2, q3, q4⟩ := goes_on h1.out h2.out e (by simp [rej])
      simp only [itemsOf, rej] at q1 q2 q3 q4
      have hlr := hl.out
      replace q3 := Lib.hid q3
      replace q4 := Lib.hid q4
      clear h1 h2
      go_wp2_with fail
      refine (next_at A n c r ⟨2, s, 0, b⟩ wr hl.out hc hn (hs.since hw) e).mono ?_
      rintro e' w2 ⟨Bb, cb, rfl, ho, hb2⟩
      have hF2 := new_zf w2 48
      go_wp2_with (guard_target =~ wpList _ _ _ (Oper.mk _ (Op.store _ _ _) _ _ _ _ :: _) _ _; refine wpList_store_arr (cs' := fv 2 s 0 (.slice Bb b.length cb)) 4 rfl rfl rfl rfl hF2 (by kernel_rfl) rfl rfl (fv_one _ _ _ _ _ _) ?_)
      intro w3 hF3 ho3 hb3 hs3
      have hb := (hb2.alloc hb2.size (.cells #[.int .i64 0, .int .i64 0, .int .i64 0, .slice none 0 0] 48)).trans (hb3.mono hb2.size)
      have hw3 := hw.trans (hb.mono hw.size)
      have hit3 := hit.since hb
      obtain ⟨a0, a1, a2, a3⟩ := fv_cells hF3
      have hgk : ∀ k, u4.ownBlock = some k → k < w2.heap.size := fun k e => Nat.lt_of_lt_of_le (hit.lt e).2 hb2.size
      have hg := hF3.lt
      have hsb : SeenB w3 (fun b => w.heap.size ≤ b ∧ u4.ownBlock ≠ some b) Bb b := (SeenB.of_own ho).keep (Keeps.of_below ((below_new w2 (.cells #[.int .i64 0, .int .i64 0, .int .i64 0, .slice none 0 0] 48)).trans hb3)) fun k _ h => ⟨Nat.le_trans hw.size h, fun e => by have := (hit.lt e).2; omega⟩
      generalize w2.heap.size = g at a0 a1 a2 a3 hgk hg ⊢
      have hsrc : Src (w3.alloc (.cells #[.int .i64 0, .slice Bb b.length cb] 40)) (fun b => w.heap.size ≤ b ∧ u4.ownBlock ≠ some b) (some ⟨w3.heap.size, 0, none⟩) [⟨0, b⟩] := Src.lit w3 _ ⟨0, b⟩ Bb cb (hsb) b.length rfl
      have hit4 := hit3.alloc (.cells #[.int .i64 0, .slice Bb b.length cb] 40)
      have hw4 := hw3.alloc hw3.size (.cells #[.int .i64 0, .slice Bb b.length cb] 40)
      have a1' := (World.cell?_alloc_lt w3 (.cells #[.int .i64 0, .slice Bb b.length cb] 40) ⟨g, 1, none⟩ hg).trans a1
      have hown : ∀ k, u4.ownBlock = some k → w.heap.size ≤ k := fun k e => (hit4.lt e).1
      have hz4 := hw4.size
      clear hit3 hw3 hF2 hF3 ho3 hb3 hs3 hb2 hw hit
      go_wp2_with (at_builtin; refine wpList_append_items _ rfl _ _ rfl (fun b => w.heap.size ≤ b) _ done [⟨0, b⟩] rfl hit4 _ 1 1 rfl rfl hsrc (by omega) hz4 ?_)
      intro v5 w5 hit5 hg5 hat5
      have hw3 := hw4.grown hg5 hz4 hown
      have a1 := hg5.cell a1' fun e => by have := hgk g e.symm; omega
      clear a1' hsrc hit4 hg5 hat5 hown hw4 hz4 hgk
      obtain ⟨A', c', k1, k2, k3⟩ := cut_l A n c s (by omega) hc s rfl
      have hs' := k3 w r hl.out hs
      clear k3
      have hd' : (r.drop s).length = n - s := by rw [List.length_drop, hlr]
      go_wp2
      go_roundw
      case rel => exact ⟨hw3, A', n - s, c', r.drop s, done ++ [⟨0, b⟩], rfl, Lib.hid hd', k2, by omega, hs', hit5, by rw [List.length_append, List.length_singleton]; omega, Lib.hid (by rw [q3.out]; simp), q4⟩
      case measure => simp [slen]; omega
    · obtain ⟨q1, q2, q3, q4⟩ := goes_on h1.out h2.out e (by simp [rej])
      simp only [itemsOf, rej] at q1 q2 q3 q4
      have hlr := hl.out
      replace q3 := Lib.hid q3
      replace q4 := Lib.hid q4
      clear h1 h2
      go_wp2_with fail
      refine (next_at A n c r (rej k) wr hl.out hc hn (hs.since hw) e).mono ?_
      rintro e' w2 ⟨Bb, cb, rfl, ho, hb2⟩
      have hF2 := new_zf w2 48
      go_wp2_with (guard_target =~ wpList _ _ _ (Oper.mk _ (Op.store _ _ _) _ _ _ _ :: _) _ _; refine wpList_store_arr (cs' := fv 3 1 k (.slice Bb 0 cb)) 4 rfl rfl rfl rfl hF2 (by kernel_rfl) rfl rfl (fv_one _ _ _ _ _ _) ?_)
      intro w3 hF3 ho3 hb3 hs3
      have hb := (hb2.alloc hb2.size (.cells #[.int .i64 0, .int .i64 0, .int .i64 0, .slice none 0 0] 48)).trans (hb3.mono hb2.size)
      have hw3 := hw.trans (hb.mono hw.size)
      have hit3 := hit.since hb
      obtain ⟨a0, a1, a2, a3⟩ := fv_cells hF3
      have hgk : ∀ k, u4.ownBlock = some k → k < w2.heap.size := fun k e => Nat.lt_of_lt_of_le (hit.lt e).2 hb2.size
      have hg := hF3.lt
      generalize w2.heap.size = g at a0 a1 a2 a3 hgk hg ⊢
      have hsrc : Src (w3.alloc (.cells #[.int .i64 k, .slice none 0 0] 40)) (fun b => w.heap.size ≤ b ∧ u4.ownBlock ≠ some b) (some ⟨w3.heap.size, 0, none⟩) [⟨k, []⟩] := Src.lit w3 _ ⟨k, []⟩ none 0 (SeenB.nil _ _ _) 0 rfl
      have hit4 := hit3.alloc (.cells #[.int .i64 k, .slice none 0 0] 40)
      have hw4 := hw3.alloc hw3.size (.cells #[.int .i64 k, .slice none 0 0] 40)
      have a1' := (World.cell?_alloc_lt w3 (.cells #[.int .i64 k, .slice none 0 0] 40) ⟨g, 1, none⟩ hg).trans a1
      have hown : ∀ k, u4.ownBlock = some k → w.heap.size ≤ k := fun k e => (hit4.lt e).1
      have hz4 := hw4.size
      clear hit3 hw3 hF2 hF3 ho3 hb3 hs3 hb2 hw hit
      go_wp2_with (at_builtin; refine wpList_append_items _ rfl _ _ rfl (fun b => w.heap.size ≤ b) _ done [⟨k, []⟩] rfl hit4 _ 1 1 rfl rfl hsrc (by omega) hz4 ?_)
      intro v5 w5 hit5 hg5 hat5
      have hw3 := hw4.grown hg5 hz4 hown
      have a1 := hg5.cell a1' fun e => by have := hgk g e.symm; omega
      clear a1' hsrc hit4 hg5 hat5 hown hw4 hz4 hgk
      obtain ⟨A', c', k1, k2, k3⟩ := cut_l A n c 1 (by omega) hc 1 rfl
      have hs' := k3 w r hl.out hs
      clear k3
      have hd' : (r.drop 1).length = n - 1 := by rw [List.length_drop, hlr]
      go_wp2
      go_roundw
      case rel => exact ⟨hw3, A', n - 1, c', r.drop 1, done ++ [⟨k, []⟩], rfl, Lib.hid hd', k2, by omega, hs', hit5, by rw [List.length_append, List.length_singleton]; omega, Lib.hid (by rw [q3.out]; simp), q4⟩
      case measure => simp [slen]; omega
end Go.Proofs.Ytfgneepilofkeaa.stream
