/-
  THE CONTRACT OF frame's measured.
-/
import Derived.Test.YtfgneepilofkeaaFrame
import Derived.Deep.RegionHeld3
namespace Go.Proofs.Ytfgneepilofkeaa.frame
open Go.RowKit Go.Proofs.Ytfgneepilofkeaa.octets Go.Proofs.Ytfgneepilofkeaa.crc
set_option linter.unusedVariables false
set_option linter.unusedSimpArgs false

/-- the value of a Found that has these parts, its body in memory of the call's own -/
def Is (w : World) (base : Nat) (v : Value) (f : F) : Prop := ∃ A c, v = .agg (fv f.kind f.size f.code (.slice A f.body.length c)).toArray ∧ Own w base (.slice A f.body.length c) f.body
theorem Is.since {w w' : World} {base : Nat} {v : Value} {f : F} (h : Is w base v f) (hb : Below w.heap.size w w') : Is w' base v f := by
  obtain ⟨A, c, e, hs⟩ := h
  exact ⟨A, c, e, hs.since hb⟩
theorem is_rej (w : World) (base c : Nat) : Is w base (.agg (fv 3 1 (c : Int) (.slice none 0 0)).toArray) (rej c) := ⟨none, 0, rfl, Own.none_ _ _⟩
theorem is_wait (w : World) (base : Nat) : Is w base (.agg (fv 0 0 0 (.slice none 0 0)).toArray) wait := ⟨none, 0, rfl, Own.none_ _ _⟩
theorem is_skip (w : World) (base k : Nat) : Is w base (.agg (fv 1 (k : Int) 0 (.slice none 0 0)).toArray) ⟨1, k, 0, []⟩ := ⟨none, 0, rfl, Own.none_ _ _⟩

set_option maxRecDepth 100000 in
set_option maxHeartbeats 2000000 in
theorem measured_ok (A : Option Addr) (n c : Nat) (l : List UInt8) (w : World) (hl : l.length = n) (h3 : 3 ≤ n) (hc : n ≤ c) (hn : n ≤ 1048576) (hs : Seen w A l) :
    Calls Try.prog 22 #[.slice A n c] w fun e w' => ∃ v, e = .returned v ∧ Is w' w.heap.size v (measB l) ∧ Below w.heap.size w w' := by
  obtain ⟨b, o, rfl, hb, hcell⟩ := hs.at_ (k := 0) (by omega)
  obtain ⟨m, hm⟩ : ∃ m, (l.getD 2 0).toNat = m := ⟨_, rfl⟩
  have hm8 : m < 256 := by rw [← hm]; exact UInt8.toNat_lt _
  have hcell' : ∀ i, i < n → ∀ W : World, Below w.heap.size w W → W.cell? ⟨b, o + i, none⟩ = some (.int .u8 ((l.getD i 0).toNat : Int)) := fun i hi W hW => by
    rw [hW.cell hb, hcell i (by omega)]
    simp [List.getD_eq_getElem?_getD, List.getElem?_eq_getElem (show i < l.length by omega)]
  have hw1 := below_new w (.cells #[.int .i64 0, .int .i64 0, .int .i64 0, .slice none 0 0] 48)
  have c2 := hcell' 2 (by omega) _ hw1
  rw [hm] at c2
  have hR1 := new_zf w 48
  by_cases h32 : 32 < m
  · have e : measB l = rej 11 := by unfold measB; rw [hm, if_pos h32]
    rw [e]
    clear hs hcell hcell'
    go_enter Try.func22, Try.ntmps22
    go_wp2_with fail
    (with_reducible refine (reject_ok 11 _).mono ?_)
    rintro e w' ⟨rfl, hw'⟩
    have hw2 := hw1.trans (hw'.mono hw1.size)
    have hR2 := hR1.since hw'
    go_wp2_with (guard_target =~ wpList _ _ _ (Oper.mk _ (Op.store _ _ _) _ _ _ _ :: _) _ _; refine wpList_store_arr (cs' := fv 3 1 11 (.slice none 0 0)) 4 rfl rfl rfl rfl hR2 (by kernel_rfl) rfl rfl (fv_one _ _ _ _ _ _) ?_)
    intro w3 hR3 ho3 hb3 hs3
    have hw3 := hw2.trans hb3
    go_wp2
    exact ret_arr rfl w.heap.size _ _ rfl hR3 Try.underlying48 rfl (by kernel_rfl) rfl ⟨_, rfl, is_rej _ _ 11, hw3⟩
  by_cases h5 : n < m + 5
  · have e : measB l = wait := by unfold measB; rw [hm, if_neg h32, hl, if_pos h5]
    rw [e]
    clear hs hcell hcell'
    go_enter Try.func22, Try.ntmps22
    go_wp2
    exact ret_arr rfl w.heap.size _ _ rfl hR1 Try.underlying48 rfl (by kernel_rfl) rfl ⟨_, rfl, is_wait _ _, hw1⟩
  obtain ⟨s, hsum⟩ : ∃ s, sumL 65535 ((l.drop 1).take (m + 2)) = s := ⟨_, rfl⟩
  have hs64 : s < 65536 := by rw [← hsum]; exact sumL_lt _ (by decide)
  obtain ⟨x, hx⟩ : ∃ x, (l.getD (m + 3) 0).toNat = x := ⟨_, rfl⟩
  obtain ⟨y, hy⟩ : ∃ y, (l.getD (m + 4) 0).toNat = y := ⟨_, rfl⟩
  have hx8 : x < 256 := by rw [← hx]; exact UInt8.toNat_lt _
  have hy8 : y < 256 := by rw [← hy]; exact UInt8.toNat_lt _
  have cx := hcell' (m + 3) (by omega) _ hw1
  have cy := hcell' (m + 4) (by omega) _ hw1
  rw [hx] at cx
  rw [hy] at cy
  obtain ⟨p, hp⟩ : ∃ p, o + (m + 3) = p := ⟨_, rfl⟩
  have hp1 : o + (m + 4) = p + 1 := by omega
  rw [hp] at cx
  rw [hp1] at cy
  have hc2 : m + 5 ≤ c := by omega
  have k1 : ∀ W, (Instr.slice 23 (.slice (some ⟨b, o, none⟩) n c) (some (.int .i64 (3 + (m : Int)))) (some (.int .i64 (3 + (m : Int) + 2))) none).run Try.prog W = .ok (.slice (some ⟨b, p, none⟩) 2 (c - (m + 3))) W := fun W => by
    have := Lib.run_slice_window (P := Try.prog) W 23 5 Try.underlying23 size_u8 b o n c (m + 3) (m + 3 + 2) (by omega) (by omega)
    rw [hp, show m + 3 + 2 - (m + 3) = 2 by omega] at this
    rw [← this, show (3 : Int) + (m : Int) = ((m + 3 : Nat) : Int) by omega]
    rfl
  have k2 : ∀ W, (Instr.arrayAt 55 (.slice (some ⟨b, p, none⟩) 2 (c - (m + 3)))).run Try.prog W = .ok (.pointer (some ⟨b, p, none⟩)) W := fun W => run_arrayAt W 55 _ 2 _ 2 _ Try.underlying55 (Nat.le_refl _)
  obtain ⟨A', c', k3, hc', hs'⟩ := cut_lh (some ⟨b, o, none⟩) n c 1 (m + 3) (by omega) (by omega) 1 (3 + (m : Int)) rfl (by omega)
  rw [show m + 3 - 1 = m + 2 by omega] at k3 hc' hs'
  have hs1 := hs' _ _ hs
  have hl1 : ((l.drop 1).take (m + 2)).length = m + 2 := by simp; omega
  obtain ⟨A'', c'', k4, hc'', hs''⟩ := cut_lh (some ⟨b, o, none⟩) n c 3 (m + 3) (by omega) (by omega) 3 (3 + (m : Int)) rfl (by omega)
  rw [show m + 3 - 3 = m by omega] at k4 hc'' hs''
  have hs3 := hs'' _ _ hs
  have hl3 : ((l.drop 3).take m).length = m := by simp; omega
  generalize c - (m + 3) = cc at k1 k2
  obtain ⟨hi, hhi⟩ : ∃ hi, s / 256 = hi := ⟨_, rfl⟩
  obtain ⟨lo, hlo⟩ : ∃ lo, s % 256 = lo := ⟨_, rfl⟩
  obtain ⟨v, hv⟩ : ∃ v, (!((x : Int) == (hi : Int) && (y : Int) == (lo : Int))) = v := ⟨_, rfl⟩
  have k5 := fun W => unlike2 x y hi lo W
  rw [hv] at k5
  have hm3 : measB l = if v then rej 12 else ⟨2, m + 5, 0, (l.drop 3).take m⟩ := by
    unfold measB
    rw [hm, hsum, hx, hy, if_neg h32, hl, if_neg h5]
    have : (s ≠ 256 * x + y) ↔ (v = true) := by
      rw [← hv, Bool.not_eq_true', Bool.and_eq_false_iff, beq_eq_false_iff_ne, beq_eq_false_iff_ne]
      omega
    by_cases h : s = 256 * x + y
    · rw [if_neg (by omega), if_neg (by rw [← this]; omega)]
    · rw [if_pos h, if_pos (this.1 h)]
  rw [hm3]
  replace hsum := Lib.hid hsum
  replace hl1 := Lib.hid hl1
  replace hl3 := Lib.hid hl3
  replace hv := Lib.hid hv
  clear hm3 hs' hs'' hcell hcell' hs hm hl hx hy hp hp1
  generalize (l.drop 1).take (m + 2) = l1 at hs1 hl1 hsum
  generalize (l.drop 3).take m = l3 at hs3 hl3 ⊢
  go_enter Try.func22, Try.ntmps22
  have hk : ∀ W W' : World, (Below w.heap.size w W ∧ W.cell? ⟨b, p, none⟩ = some (.int .u8 (x : Int)) ∧ W.cell? ⟨b, p + 1, none⟩ = some (.int .u8 (y : Int)) ∧ Arr W w.heap.size (fv 0 0 0 (.slice none 0 0))) → Below W.heap.size W W' →
      (Below w.heap.size w W' ∧ W'.cell? ⟨b, p, none⟩ = some (.int .u8 (x : Int)) ∧ W'.cell? ⟨b, p + 1, none⟩ = some (.int .u8 (y : Int)) ∧ Arr W' w.heap.size (fv 0 0 0 (.slice none 0 0))) := fun W W' h hb' =>
    ⟨h.1.trans (hb'.mono h.1.size), (hb'.cell (by have := h.1.size; show b < _; omega)).trans h.2.1, (hb'.cell (by have := h.1.size; show b < _; omega)).trans h.2.2.1, h.2.2.2.since hb'⟩
  go_wp2_with fail
  have hW0 : Below w.heap.size w (w.alloc (.cells #[.int .i64 0, .int .i64 0, .int .i64 0, .slice none 0 0] 48)) ∧ (w.alloc (.cells #[.int .i64 0, .int .i64 0, .int .i64 0, .slice none 0 0] 48)).cell? ⟨b, p, none⟩ = some (.int .u8 (x : Int)) ∧ (w.alloc (.cells #[.int .i64 0, .int .i64 0, .int .i64 0, .slice none 0 0] 48)).cell? ⟨b, p + 1, none⟩ = some (.int .u8 (y : Int)) ∧ Arr (w.alloc (.cells #[.int .i64 0, .int .i64 0, .int .i64 0, .slice none 0 0] 48)) w.heap.size (fv 0 0 0 (.slice none 0 0)) := ⟨hw1, cx, cy, hR1⟩
  clear cx cy hR1 hw1 c2
  generalize w.alloc (.cells #[.int .i64 0, .int .i64 0, .int .i64 0, .slice none 0 0] 48) = W0 at hW0 ⊢
  go_region_held3 (fun W => Below w.heap.size w W ∧ W.cell? ⟨b, p, none⟩ = some (.int .u8 (x : Int)) ∧ W.cell? ⟨b, p + 1, none⟩ = some (.int .u8 (y : Int)) ∧ Arr W w.heap.size (fv 0 0 0 (.slice none 0 0)))
    (first | assumption | exact hk _ _ (by assumption) hb' | exact hk _ _ hW0 (Below.drew (Below.refl _ _)))
    ((refine (summed_ok A' (m + 2) c' l1 s _ hl1.out (by omega) (hs1.since (And.left (by assumption))) hsum.out).mono ?_; rintro e w' ⟨rfl, hb'⟩))
  all_goals
    rename Below w.heap.size w w' ∧ _ => hS
    obtain ⟨hw2, -, -, hR2⟩ := hS
    cases v with
    | true =>
      go_wp2_with fail
      (with_reducible refine (reject_ok 12 _).mono ?_)
      rintro e w3 ⟨rfl, hb3⟩
      have hR3 := hR2.since hb3
      have hw3 := hw2.trans (hb3.mono hw2.size)
      go_wp2_with (guard_target =~ wpList _ _ _ (Oper.mk _ (Op.store _ _ _) _ _ _ _ :: _) _ _; refine wpList_store_arr (cs' := fv 3 1 12 (.slice none 0 0)) 4 rfl rfl rfl rfl hR3 (by kernel_rfl) rfl rfl (fv_one _ _ _ _ _ _) ?_)
      intro w4 hR4 ho4 hb4 hs4
      have hw4 := hw3.trans hb4
      go_wp2
      exact ret_arr rfl w.heap.size _ _ rfl hR4 Try.underlying48 rfl (by kernel_rfl) rfl ⟨_, rfl, is_rej _ _ 12, hw4⟩
    | false =>
      go_wp2_with fail
      refine (clone_ok A'' m c'' l3 _ hl3.out (by omega) (hs3.since hw2)).mono ?_
      rintro e w3 ⟨v, rfl, hown, hb3⟩
      have hR3 := hR2.since hb3
      have hw3 := hw2.trans (hb3.mono hw2.size)
      obtain ⟨B, cb, rfl, hsB⟩ := hown.seen_at hl3.out
      go_wp2_with (guard_target =~ wpList _ _ _ (Oper.mk _ (Op.store _ _ _) _ _ _ _ :: _) _ _; refine wpList_store_arr (cs' := fv 2 (3 + (m : Int) + 2) 0 (.slice B m cb)) 4 rfl rfl rfl rfl hR3 (by kernel_rfl) rfl rfl (fv_one _ _ _ _ _ _) ?_)
      intro w4 hR4 ho4 hb4 hs4
      have hw4 := hw3.trans hb4
      have hl0 := hl3.out
      have hlt2 := hR2.lt
      have hown4 := (hown.of_block fun g hg => ho4 g (by have := (hown.lt hg).1; omega)).mono hw2.size
      go_wp2
      refine ret_arr rfl w.heap.size _ _ rfl hR4 Try.underlying48 rfl (by kernel_rfl) rfl ⟨_, rfl, ⟨B, cb, ?_, ?_⟩, hw4⟩
      · show _ = Value.agg (fv 2 ((m + 5 : Nat) : Int) 0 (.slice B l3.length cb)).toArray
        rw [hl0, show ((m + 5 : Nat) : Int) = 3 + (m : Int) + 2 by omega]
      · show Own w4 w.heap.size (.slice B l3.length cb) l3
        rw [hl0]
        exact hown4
end Go.Proofs.Ytfgneepilofkeaa.frame
