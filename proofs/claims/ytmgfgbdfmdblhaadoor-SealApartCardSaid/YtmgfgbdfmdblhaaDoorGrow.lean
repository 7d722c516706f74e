/-
  THE LIBRARY'S Grow, AND Concat OF TWO ROWS OF BYTES.
-/
import Derived.Test.YtmgfgbdfmdblhaaDoorMore
import Derived.Lib.AppendZeros
import Derived.BigQuiet
import Derived.Deep.QuietTactic
namespace Go.Proofs.YtmgfgbdfmdblhaaDoor.octets
open Go.RowKit
set_option linter.unusedVariables false

/-- 'append([]T(nil), make([]T, n)...)[:0]' -/
theorem grown_held (w : World) (n : Nat) (hn : n ≤ 2097152) : Held (w.drew.alloc (.cells (Builtin.zeroCells (Value.int .u8 0).cells n ++ Builtin.zeroCells (Value.int .u8 0).cells (grownCap w n 0 5 - n)) 5)) w.heap.size (grownCap w n 0 5) [] := by
  have h1 := grownCap_ge w n 0 5
  have h2 := grownCap_le_maxLen w n 0 5 (by simp only [maxLen]; omega)
  refine ⟨Nat.zero_le _, h2, _, Go.Deep.blk_alloc_new _ _, ?_, fun i hi => by simp at hi⟩
  rw [Array.size_append, size_zeroCells, size_zeroCells, show (Value.int .u8 0).cells.size = 1 from rfl]
  omega
set_option maxHeartbeats 1000000 in
theorem grow_ok (n : Nat) (hn : n ≤ 2097152) (w : World) :
    Calls Tryd.prog 23 #[.slice none 0 0, .int .i64 (n : Int)] w fun e w' => ∃ v, e = .returned v ∧ Own w' w.heap.size v [] ∧ Below w.heap.size w w' := by
  by_cases h0 : n = 0
  · subst h0
    have e0 : ((0 : Nat) : Int) = 0 := rfl
    rw [e0]
    go_enter Tryd.func23, Tryd.ntmps23
    go_wp2
    go_ret
    exact ⟨_, rfl, Own.none_ _ _, Below.refl _ _⟩
  · obtain ⟨i, hi, hz, hs, hb⟩ := info_parts u8_info
    have hrun := fun ty => Lib.run_append_nil_zeros (P := Tryd.prog) w 23 3 ty 5 i (.int .u8 0) .i64 .i64 Tryd.underlying23 Tryd.underlying3 hi hz n (by omega) (by omega) (by omega) (by rw [hb]; omega)
    have hheld := grown_held w n hn
    have hw : Below w.heap.size w (w.drew.alloc (.cells (Builtin.zeroCells (Value.int .u8 0).cells n ++ Builtin.zeroCells (Value.int .u8 0).cells (grownCap w n 0 5 - n)) 5)) := (Below.drew (Below.refl _ _)).alloc (Nat.le_refl _) _
    have hg := grownCap_ge w n 0 5
    generalize grownCap w n 0 5 = G at hrun hheld hw hg
    have hcut := slice_h (some ⟨w.heap.size, 0, none⟩) n G 0 (by omega)
    go_enter Tryd.func23, Tryd.ntmps23
    go_wp2_with (at_builtin; refine Lib.wpList_append_run _ rfl _ _ _ _ rfl _ _ rfl rfl _ _ (hrun _) ?_)
    go_wp2
    go_ret
    exact ⟨_, rfl, hheld.own (Nat.le_refl _), hw⟩
set_option maxHeartbeats 1000000 in
theorem concat_ok (pb : Nat) (A1 A2 : Option Addr) (n1 c1 n2 c2 : Nat) (l1 l2 : List UInt8) (w : World) (h1 : l1.length = n1) (h2 : l2.length = n2) (hn1 : n1 ≤ 1048576) (hn2 : n2 ≤ 1048576) (s1 : Seen w A1 l1) (s2 : Seen w A2 l2)
    (p1 : w.cell? ⟨pb, 0, none⟩ = some (.slice A1 n1 c1)) (p2 : w.cell? ⟨pb, 1, none⟩ = some (.slice A2 n2 c2)) (hpb : pb < w.heap.size) :
    Calls Tryd.prog 16 #[.slice (some ⟨pb, 0, none⟩) 2 2] w fun e w' => ∃ v, e = .returned v ∧ Own w' w.heap.size v (l1 ++ l2) ∧ Below w.heap.size w w' := by
  go_enter Tryd.func16, Tryd.ntmps16
  go_wp2
  go_loopw [3, 11] (fun s t wr => w = wr ∧ ∃ i m : Nat, t = .int .i64 i ∧ s = .int .i64 m ∧ ((i = 0 ∧ m = 0) ∨ (i = 1 ∧ m = n1) ∨ (i = 2 ∧ m = n1 + n2))) (fun _ t _ => 2 - (intOf t).toNat)
  case atStart => exact ⟨rfl, 0, 0, rfl, rfl, .inl ⟨rfl, rfl⟩⟩
  case round =>
    obtain ⟨rfl, i, m, rfl, rfl, ⟨rfl, rfl⟩ | ⟨rfl, rfl⟩ | ⟨rfl, hm⟩⟩ := hrel
    · simp only [show ((0 : Nat) : Int) = 0 from rfl]
      go_wp2
      go_roundw
      case rel => exact ⟨trivial, 1, n1, rfl, by go_num, .inr (.inl ⟨rfl, rfl⟩)⟩
      case measure => simp [intOf]
    · simp only [show ((1 : Nat) : Int) = 1 from rfl]
      go_wp2
      go_roundw
      case rel => exact ⟨trivial, 2, m + n2, rfl, by go_num, .inr (.inr ⟨rfl, rfl⟩)⟩
      case measure => simp [intOf]
    · simp only [show ((2 : Nat) : Int) = 2 from rfl]
      have hm2 : m ≤ 2097152 := by omega
      clear hm
      go_wp2_with fail
      (with_reducible refine (grow_ok m hm2 _).mono ?_)
      rintro e w2 ⟨v, rfl, ho, hw⟩
      obtain ⟨B, c, rfl, hs⟩ := ho.seen_at (k := 0) rfl
      clear hs
      have q1 := fun (W : World) (h : Below w.heap.size w W) => (h.cell (p := ⟨pb, 0, none⟩) hpb).trans p1
      have q2 := fun (W : World) (h : Below w.heap.size w W) => (h.cell (p := ⟨pb, 1, none⟩) hpb).trans p2
      go_wp2
      go_loopw [6, 27] (fun s t W => Below w.heap.size w W ∧ ∃ (i m : Nat) (B : Option Addr) (c : Nat) (l : List UInt8), t = .int .i64 i ∧ s = .slice B m c ∧ l.length = m ∧ Own W w.heap.size (.slice B m c) l ∧ ((i = 0 ∧ l = []) ∨ (i = 1 ∧ l = l1) ∨ (i = 2 ∧ l = l1 ++ l2))) (fun _ t _ => 2 - (intOf t).toNat)
      case atStart => exact ⟨hw, 0, 0, B, c, [], rfl, rfl, rfl, ho, .inl ⟨rfl, rfl⟩⟩
      case round =>
        clear hw ho
        obtain ⟨hw, i, m, B, c, l, rfl, rfl, hl, ho, ⟨rfl, rfl⟩ | ⟨rfl, rfl⟩ | ⟨rfl, rfl⟩⟩ := hrel
        · simp only [show ((0 : Nat) : Int) = 0 from rfl]
          have p1 := q1 wr hw
          have hz := hw.size
          clear q1 q2 p2
          go_wp2_with (at_builtin; refine wpList_append_own_any _ rfl _ _ rfl w.heap.size _ [] rfl ho A1 n1 c1 rfl l1 h1 (s1.since hw) (by simp; omega) hz ?_)
          intro v' w' ho' hg hor
          have hw' := ho.grew hw (Nat.le_refl _) hz hg
          obtain ⟨B', c', rfl, hs⟩ := ho'.seen_at (k := n1) h1
          clear hs hg hor
          go_wp2
          go_roundw
          case rel => exact ⟨hw', 1, n1, B', c', l1, rfl, rfl, h1, ho', .inr (.inl ⟨rfl, rfl⟩)⟩
          case measure => simp [intOf]
        · simp only [show ((1 : Nat) : Int) = 1 from rfl]
          have p2 := q2 wr hw
          have hz := hw.size
          clear q1 q2 p1
          go_wp2_with (at_builtin; refine wpList_append_own_any _ rfl _ _ rfl w.heap.size _ l rfl ho A2 n2 c2 rfl l2 h2 (s2.since hw) (by omega) hz ?_)
          intro v' w' ho' hg hor
          have hw' := ho.grew hw (Nat.le_refl _) hz hg
          obtain ⟨B', c', rfl, hs⟩ := ho'.seen_at (k := m + n2) (by rw [List.length_append, hl, h2])
          clear hs hg hor
          go_wp2
          go_roundw
          case rel => exact ⟨hw', 2, m + n2, B', c', l ++ l2, rfl, rfl, by rw [List.length_append, hl, h2], ho', .inr (.inr ⟨rfl, rfl⟩)⟩
          case measure => simp [intOf]
        · simp only [show ((2 : Nat) : Int) = 2 from rfl]
          go_wp2
          go_ret
          exact ⟨_, rfl, ho, hw⟩
end Go.Proofs.YtmgfgbdfmdblhaaDoor.octets
