/-
  WHAT mac STANDS ON: the library's Grow and Concat of two rows of bytes; the key turned; two rows of bytes held against each other. No sum.
-/
import Derived.Test.YtcaeaejbccgpoaaDoorMacMath
import Derived.Test.YtcaeaejbccgpoaaDoorArr
import Derived.Test.YtcaeaejbccgpoaaDoorSeen
import Derived.Test.YtcaeaejbccgpoaaDoorShaRSum
import Derived.Lib.AppendZeros
import Derived.BigQuiet
import Derived.Deep.QuietTactic
namespace Go.Proofs.YtcaeaejbccgpoaaDoor.mac
open Go.RowKit Go.Proofs.YtcaeaejbccgpoaaDoor.octets Go.Proofs.YtcaeaejbccgpoaaDoor.sha
set_option linter.unusedVariables false

theorem Arr.seen {w : World} {b : Nat} {l : List UInt8} (h : Arr w b (vals l)) : Seen w (some ⟨b, 0, none⟩) l := by
  intro _
  refine ⟨b, 0, rfl, h.lt, fun i hi => ?_⟩
  rw [Nat.zero_add]
  exact h.cell (vals_get hi)
theorem vals_at {l : List UInt8} {i : Nat} {y : UInt8} (h : l[i]? = some y) : (vals l)[i]? = some (.int .u8 (y.toNat : Int)) := by simp [vals, h]

/-- 'append([]T(nil), make([]T, n)...)[:0]' -/
theorem grown_held (w : World) (n : Nat) (hn : n ≤ 2097152) : Held (w.drew.alloc (.cells (Builtin.zeroCells (Value.int .u8 0).cells n ++ Builtin.zeroCells (Value.int .u8 0).cells (grownCap w n 0 5 - n)) 5)) w.heap.size (grownCap w n 0 5) [] := by
  have h1 := grownCap_ge w n 0 5
  have h2 := grownCap_le_maxLen w n 0 5 (by simp only [maxLen]; omega)
  refine ⟨Nat.zero_le _, h2, _, Go.Deep.blk_alloc_new _ _, ?_, fun i hi => by simp at hi⟩
  rw [Array.size_append, size_zeroCells, size_zeroCells, show (Value.int .u8 0).cells.size = 1 from rfl]
  omega
set_option maxHeartbeats 1000000 in
theorem grow_ok (n : Nat) (hn : n ≤ 2097152) (w : World) :
    Calls Tryd.prog 30 #[.slice none 0 0, .int .i64 (n : Int)] w fun e w' => ∃ v, e = .returned v ∧ Own w' w.heap.size v [] ∧ Below w.heap.size w w' := by
  by_cases h0 : n = 0
  · subst h0
    have e0 : ((0 : Nat) : Int) = 0 := rfl
    rw [e0]
    go_enter Tryd.func30, Tryd.ntmps30
    go_wp2
    go_ret
    exact ⟨_, rfl, Own.none_ _ _, Below.refl _ _⟩
  · obtain ⟨i, hi, hz, hs, hb⟩ := info_parts u8_info
    have hrun := fun ty => Lib.run_append_nil_zeros (P := Tryd.prog) w 22 3 ty 5 i (.int .u8 0) .i64 .i64 Tryd.underlying22 Tryd.underlying3 hi hz n (by omega) (by omega) (by omega) (by rw [hb]; omega)
    have hheld := grown_held w n hn
    have hw : Below w.heap.size w (w.drew.alloc (.cells (Builtin.zeroCells (Value.int .u8 0).cells n ++ Builtin.zeroCells (Value.int .u8 0).cells (grownCap w n 0 5 - n)) 5)) := (Below.drew (Below.refl _ _)).alloc (Nat.le_refl _) _
    have hg := grownCap_ge w n 0 5
    generalize grownCap w n 0 5 = G at hrun hheld hw hg
    have hcut := slice_h (some ⟨w.heap.size, 0, none⟩) n G 0 (by omega)
    go_enter Tryd.func30, Tryd.ntmps30
    go_wp2_with (at_builtin; refine Lib.wpList_append_run _ rfl _ _ _ _ rfl _ _ rfl rfl _ _ (hrun _) ?_)
    go_wp2
    go_ret
    exact ⟨_, rfl, hheld.own (Nat.le_refl _), hw⟩
set_option maxHeartbeats 1000000 in
theorem concat_ok (pb : Nat) (A1 A2 : Option Addr) (n1 c1 n2 c2 : Nat) (l1 l2 : List UInt8) (w : World) (h1 : l1.length = n1) (h2 : l2.length = n2) (hn1 : n1 ≤ 1048576) (hn2 : n2 ≤ 1048576) (s1 : Seen w A1 l1) (s2 : Seen w A2 l2)
    (p1 : w.cell? ⟨pb, 0, none⟩ = some (.slice A1 n1 c1)) (p2 : w.cell? ⟨pb, 1, none⟩ = some (.slice A2 n2 c2)) (hpb : pb < w.heap.size) :
    Calls Tryd.prog 23 #[.slice (some ⟨pb, 0, none⟩) 2 2] w fun e w' => ∃ v, e = .returned v ∧ Own w' w.heap.size v (l1 ++ l2) ∧ Below w.heap.size w w' := by
  go_enter Tryd.func23, Tryd.ntmps23
  go_wp2
  go_loopw [3, 11] (fun s t wr => w = wr ∧ ∃ i m : Nat, t = .int .i64 i ∧ s = .int .i64 m ∧ ((i = 0 ∧ m = 0) ∨ (i = 1 ∧ m = n1) ∨ (i = 2 ∧ m = n1 + n2))) (fun _ t _ => 2 - (intOf t).toNat)
  case atStart => exact ⟨rfl, 0, 0, rfl, rfl, .inl ⟨rfl, rfl⟩⟩
  case round =>
    obtain ⟨rfl, i, m, rfl, rfl, ⟨rfl, rfl⟩ | ⟨rfl, rfl⟩ | ⟨rfl, hm⟩⟩ := hrel
    · simp only [show ((0 : Nat) : Int) = 0 from rfl]
      go_wp2
      go_roundw
      case rel => exact ⟨trivial, 1, n1, rfl, by go_num, .inr (.inl ⟨rfl, rfl⟩)⟩
      case measure => simp [intOf]
    · simp only [show ((1 : Nat) : Int) = 1 from rfl]
      go_wp2
      go_roundw
      case rel => exact ⟨trivial, 2, m + n2, rfl, by go_num, .inr (.inr ⟨rfl, rfl⟩)⟩
      case measure => simp [intOf]
    · simp only [show ((2 : Nat) : Int) = 2 from rfl]
      have hm2 : m ≤ 2097152 := by omega
      clear hm
      go_wp2_with fail
      (with_reducible refine (grow_ok m hm2 _).mono ?_)
      rintro e w2 ⟨v, rfl, ho, hw⟩
      obtain ⟨B, c, rfl, hs⟩ := ho.seen_at (k := 0) rfl
      clear hs
      have q1 := fun (W : World) (h : Below w.heap.size w W) => (h.cell (p := ⟨pb, 0, none⟩) hpb).trans p1
      have q2 := fun (W : World) (h : Below w.heap.size w W) => (h.cell (p := ⟨pb, 1, none⟩) hpb).trans p2
      go_wp2
      go_loopw [6, 27] (fun s t W => Below w.heap.size w W ∧ ∃ (i m : Nat) (B : Option Addr) (c : Nat) (l : List UInt8), t = .int .i64 i ∧ s = .slice B m c ∧ l.length = m ∧ Own W w.heap.size (.slice B m c) l ∧ ((i = 0 ∧ l = []) ∨ (i = 1 ∧ l = l1) ∨ (i = 2 ∧ l = l1 ++ l2))) (fun _ t _ => 2 - (intOf t).toNat)
      case atStart => exact ⟨hw, 0, 0, B, c, [], rfl, rfl, rfl, ho, .inl ⟨rfl, rfl⟩⟩
      case round =>
        clear hw ho
        obtain ⟨hw, i, m, B, c, l, rfl, rfl, hl, ho, ⟨rfl, rfl⟩ | ⟨rfl, rfl⟩ | ⟨rfl, rfl⟩⟩ := hrel
        · simp only [show ((0 : Nat) : Int) = 0 from rfl]
          have p1 := q1 wr hw
          have hz := hw.size
          clear q1 q2 p2
          go_wp2_with (at_builtin; refine wpList_append_own_any _ rfl _ _ rfl w.heap.size _ [] rfl ho A1 n1 c1 rfl l1 h1 (s1.since hw) (by simp; omega) hz ?_)
          intro v' w' ho' hg hor
          have hw' := ho.grew hw (Nat.le_refl _) hz hg
          obtain ⟨B', c', rfl, hs⟩ := ho'.seen_at (k := n1) h1
          clear hs hg hor
          go_wp2
          go_roundw
          case rel => exact ⟨hw', 1, n1, B', c', l1, rfl, rfl, h1, ho', .inr (.inl ⟨rfl, rfl⟩)⟩
          case measure => simp [intOf]
        · simp only [show ((1 : Nat) : Int) = 1 from rfl]
          have p2 := q2 wr hw
          have hz := hw.size
          clear q1 q2 p1
          go_wp2_with (at_builtin; refine wpList_append_own_any _ rfl _ _ rfl w.heap.size _ l rfl ho A2 n2 c2 rfl l2 h2 (s2.since hw) (by omega) hz ?_)
          intro v' w' ho' hg hor
          have hw' := ho.grew hw (Nat.le_refl _) hz hg
          obtain ⟨B', c', rfl, hs⟩ := ho'.seen_at (k := m + n2) (by rw [List.length_append, hl, h2])
          clear hs hg hor
          go_wp2
          go_roundw
          case rel => exact ⟨hw', 2, m + n2, B', c', l ++ l2, rfl, rfl, by rw [List.length_append, hl, h2], ho', .inr (.inr ⟨rfl, rfl⟩)⟩
          case measure => simp [intOf]
        · simp only [show ((2 : Nat) : Int) = 2 from rfl]
          go_wp2
          go_ret
          exact ⟨_, rfl, ho, hw⟩
set_option maxRecDepth 100000 in
set_option maxHeartbeats 1000000 in
theorem xored_ok (k : List UInt8) (c : UInt8) (x : Int) (hx : x = (c.toNat : Int)) (hk : k.length = 64) (w : World) :
    Calls Tryd.prog 17 #[.agg (vals k).toArray, .int .u8 x] w fun e w' => e = .returned (.slice (some ⟨w.heap.size, 0, none⟩) 64 64) ∧ Arr w' w.heap.size (vals (turnB c k)) ∧ Below w.heap.size w w' := by
  have hw1 : Below w.heap.size w (w.alloc (.cells (vals k).toArray 33)) := by go_grown
  have hX := Arr.new w (vals k) 33
  have hkl : Hid ((vals k).length = 64) := Lib.hid (by rw [vals_len, hk])
  have E := fun y : UInt8 => u8_xor y c
  rw [← hx] at E
  have hxl : 0 ≤ x ∧ x ≤ 255 := by have := c.toNat_lt; omega
  replace hx : Unit → x = (c.toNat : Int) := fun _ => hx
  replace hk := Lib.hid hk
  have hcut := cut_all w.heap.size
  go_enter Tryd.func17, Tryd.ntmps17
  go_wp2
  go_loopw [6] (fun t wr => ∃ i : Nat, i ≤ 64 ∧ t = .int .i64 i ∧ Below w.heap.size w wr ∧ Arr wr w.heap.size (vals (tr c k i))) (fun t _ => 64 - (intOf t).toNat)
  case atStart => exact ⟨0, by omega, rfl, hw1, by rw [tr_zero]; exact hX⟩
  case round =>
    clear hw1 hX
    obtain ⟨i, hi, rfl, hw, hX⟩ := hrel
    by_cases hlt : i < 64
    · have hik : i < k.length := by rw [hk.out]; exact hlt
      obtain ⟨y, hy⟩ : ∃ y, k[i] = y := ⟨_, rfl⟩
      have hc := hX.cell (i := i) (vals_at (tr_get c k i hik))
      have hf := hX.frozen i
      obtain ⟨z, hz⟩ : ∃ z, y ^^^ c = z := ⟨_, rfl⟩
      have Ey := E y
      rw [hz] at Ey
      have hzl := z.toNat_lt
      have hset := hX.set i (.int .u8 (z.toNat : Int))
      have es : (vals (tr c k i)).set i (.int .u8 (z.toNat : Int)) = vals (tr c k (i + 1)) := by
        rw [← tr_set c k i hik, hy, hz, vals, vals, List.map_set]
      rw [es] at hset
      rw [hy] at hc
      replace hset := Lib.hid hset
      clear es hy hz E hik
      go_wp2
      go_roundw
      case rel => exact ⟨i + 1, by omega, by go_num, hw.setCell (Nat.le_refl _) _, hset.out⟩
      case measure => simp [intOf]; omega
    · obtain rfl : i = 64 := by omega
      simp only [show ((64 : Nat) : Int) = 64 from rfl]
      rw [tr_all c k 64 (by rw [hk.out]; exact Nat.le_refl _)] at hX
      clear E
      go_wp2
      go_ret
      exact ⟨rfl, hX, hw⟩
theorem below_drawn {B : Nat} {a w : World} (h : Below B a w) (n : Nat) : Below B a (w.drewN n) := ⟨h.os, h.tape, h.output, h.size, h.block⟩
set_option maxHeartbeats 1000000 in
theorem same_ok (A B : Option Addr) (n c m d : Nat) (a b : List UInt8) (v : Bool) (w : World) (ha : a.length = n) (hb : b.length = m) (hn : n ≤ 1048576) (sa : Seen w A a) (sb : Seen w B b) (hv : decide (a = b) = v) :
    Calls Tryd.prog 14 #[.slice A n c, .slice B m d] w fun e w' => e = .returned (.bool v) ∧ ∃ q, w' = w.drewN q := by
  by_cases hnm : n = m
  · subst hnm
    have hend : Unit → decide (ap a b n = 0) = v := fun _ => by rw [← ha, ap_same a b (by rw [ha, hb]), hv]
    replace ha := Lib.hid ha
    replace hb := Lib.hid hb
    clear hv
    go_enter Tryd.func14, Tryd.ntmps14
    go_wp2
    go_loopw [5, 14] (fun r t wr => ∃ (i q : Nat) (x : UInt8), i ≤ n ∧ t = .int .i64 i ∧ r = .int .u8 (x.toNat : Int) ∧ x = ap a b i ∧ wr = w.drewN q) (fun _ t _ => n - (intOf t).toNat)
    case atStart => exact ⟨0, 0, 0, by omega, rfl, rfl, rfl, rfl⟩
    case round =>
      obtain ⟨i, q, x, hi, rfl, rfl, hx, rfl⟩ := hrel
      replace hx : Unit → x = ap a b i := fun _ => hx
      by_cases hlt : i < n
      · obtain ⟨ab, ao, rfl, hal, hac⟩ := sa.at_ (k := i) (by rw [ha.out]; exact hlt)
        obtain ⟨bb, bo, rfl, hbl, hbc⟩ := sb.at_ (k := i) (by rw [hb.out]; exact hlt)
        have hac := hac i (by rw [ha.out]; exact hlt)
        have hbc := hbc i (by rw [hb.out]; exact hlt)
        obtain ⟨y, hy⟩ : ∃ y, a[i]'(by rw [ha.out]; exact hlt) = y := ⟨_, rfl⟩
        obtain ⟨z, hz⟩ : ∃ z, b[i]'(by rw [hb.out]; exact hlt) = z := ⟨_, rfl⟩
        rw [hy] at hac
        rw [hz] at hbc
        obtain ⟨W, hW⟩ : ∃ W, w.drewN q = W := ⟨_, rfl⟩
        have hac' : ∀ k, (W.drewN k).cell? ⟨ab, ao + i, none⟩ = some (.int .u8 (y.toNat : Int)) := fun k => by rw [← hW]; exact hac
        have hbc' : ∀ k, (W.drewN k).cell? ⟨bb, bo + i, none⟩ = some (.int .u8 (z.toNat : Int)) := fun k => by rw [← hW]; exact hbc
        rw [hW]
        replace hW : Unit → w.drewN q = W := fun _ => hW
        have E1 := u8_xor y z
        obtain ⟨u, hu⟩ : ∃ u, y ^^^ z = u := ⟨_, rfl⟩
        rw [hu] at E1
        have E2 := u8_or x u
        obtain ⟨x', hx'⟩ : ∃ x', x ||| u = x' := ⟨_, rfl⟩
        rw [hx'] at E2
        have hnext : Unit → x' = ap a b (i + 1) := fun _ => by
          rw [ap, ← hx (), ← hx', ← hu, ← hy, ← hz]
          simp [List.getD_eq_getElem?_getD, ha.out, hb.out, hlt]
        clear hx hx' hu hy hz hac hbc hend sa sb
        go_wp2_with fail
        go_quiet (fail)
        go_wp2
        go_roundw
        case rel => exact ⟨i + 1, q + nq, x', by omega, by go_num, rfl, hnext (), by rw [← hW ()]; exact World.drewN_drewN ..⟩
        case measure => simp [intOf]; omega
      · obtain rfl : i = n := by omega
        have hend := hend ()
        rw [← hx (), ← u8_zero] at hend
        go_wp2
        go_ret
        exact ⟨congrArg (fun t => Ending.returned (.bool t)) (by rw [← hend]; rfl), q, rfl⟩
  · have hv' : v = false := by
      rw [← hv]; exact decide_eq_false (by rintro rfl; omega)
    subst hv'
    clear hv
    go_enter Tryd.func14, Tryd.ntmps14
    go_wp2
    go_ret
    exact ⟨rfl, 0, rfl⟩
end Go.Proofs.YtcaeaejbccgpoaaDoor.mac
