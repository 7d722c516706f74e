/-
  WHAT mac STANDS ON: the key turned; two rows of bytes held against each other. No sum.
-/
import Derived.Test.YtmgfgbdfmdblhaaDoorMacMath
import Derived.Test.YtmgfgbdfmdblhaaDoorMore
import Derived.Test.YtmgfgbdfmdblhaaDoorGrow
import Derived.Test.YtmgfgbdfmdblhaaDoorSeen
import Derived.Test.YtmgfgbdfmdblhaaDoorShaRSum
import Derived.Lib.AppendZeros
import Derived.BigQuiet
import Derived.Deep.QuietTactic
namespace Go.Proofs.YtmgfgbdfmdblhaaDoor.mac
open Go.RowKit Go.Proofs.YtmgfgbdfmdblhaaDoor.octets Go.Proofs.YtmgfgbdfmdblhaaDoor.sha
set_option linter.unusedVariables false

set_option maxRecDepth 100000 in
set_option maxHeartbeats 1000000 in
theorem xored_ok (k : List UInt8) (c : UInt8) (x : Int) (hx : x = (c.toNat : Int)) (hk : k.length = 64) (w : World) :
    Calls Tryd.prog 21 #[.agg (vals k).toArray, .int .u8 x] w fun e w' => e = .returned (.slice (some ⟨w.heap.size, 0, none⟩) 64 64) ∧ Arr w' w.heap.size (vals (turnB c k)) ∧ Below w.heap.size w w' := by
  have hw1 : Below w.heap.size w (w.alloc (.cells (vals k).toArray 47)) := by go_grown
  have hX := Arr.new w (vals k) 47
  have hkl : Hid ((vals k).length = 64) := Lib.hid (by rw [vals_len, hk])
  have E := fun y : UInt8 => u8_xor y c
  rw [← hx] at E
  have hxl : 0 ≤ x ∧ x ≤ 255 := by have := c.toNat_lt; omega
  replace hx : Unit → x = (c.toNat : Int) := fun _ => hx
  replace hk := Lib.hid hk
  have hcut := cut_all w.heap.size
  go_enter Tryd.func21, Tryd.ntmps21
  go_wp2
  go_loopw [6] (fun t wr => ∃ i : Nat, i ≤ 64 ∧ t = .int .i64 i ∧ Below w.heap.size w wr ∧ Arr wr w.heap.size (vals (tr c k i))) (fun t _ => 64 - (intOf t).toNat)
  case atStart => exact ⟨0, by omega, rfl, hw1, by rw [tr_zero]; exact hX⟩
  case round =>
    clear hw1 hX
    obtain ⟨i, hi, rfl, hw, hX⟩ := hrel
    by_cases hlt : i < 64
    · have hik : i < k.length := by rw [hk.out]; exact hlt
      obtain ⟨y, hy⟩ : ∃ y, k[i] = y := ⟨_, rfl⟩
      have hc := hX.cell (i := i) (vals_at (tr_get c k i hik))
      have hf := hX.frozen i
      obtain ⟨z, hz⟩ : ∃ z, y ^^^ c = z := ⟨_, rfl⟩
      have Ey := E y
      rw [hz] at Ey
      have hzl := z.toNat_lt
      have hset := hX.set i (.int .u8 (z.toNat : Int))
      have es : (vals (tr c k i)).set i (.int .u8 (z.toNat : Int)) = vals (tr c k (i + 1)) := by
        rw [← tr_set c k i hik, hy, hz, vals, vals, List.map_set]
      rw [es] at hset
      rw [hy] at hc
      replace hset := Lib.hid hset
      clear es hy hz E hik
      go_wp2
      go_roundw
      case rel => exact ⟨i + 1, by omega, by go_num, hw.setCell (Nat.le_refl _) _, hset.out⟩
      case measure => simp [intOf]; omega
    · obtain rfl : i = 64 := by omega
      simp only [show ((64 : Nat) : Int) = 64 from rfl]
      rw [tr_all c k 64 (by rw [hk.out]; exact Nat.le_refl _)] at hX
      clear E
      go_wp2
      go_ret
      exact ⟨rfl, hX, hw⟩
set_option maxHeartbeats 1000000 in
theorem same_ok (A B : Option Addr) (n c m d : Nat) (a b : List UInt8) (v : Bool) (w : World) (ha : a.length = n) (hb : b.length = m) (hn : n ≤ 1048576) (sa : Seen w A a) (sb : Seen w B b) (hv : decide (a = b) = v) :
    Calls Tryd.prog 17 #[.slice A n c, .slice B m d] w fun e w' => e = .returned (.bool v) ∧ ∃ q, w' = w.drewN q := by
  by_cases hnm : n = m
  · subst hnm
    have hend : Unit → decide (ap a b n = 0) = v := fun _ => by rw [← ha, ap_same a b (by rw [ha, hb]), hv]
    replace ha := Lib.hid ha
    replace hb := Lib.hid hb
    clear hv
    go_enter Tryd.func17, Tryd.ntmps17
    go_wp2
    go_loopw [5, 14] (fun r t wr => ∃ (i q : Nat) (x : UInt8), i ≤ n ∧ t = .int .i64 i ∧ r = .int .u8 (x.toNat : Int) ∧ x = ap a b i ∧ wr = w.drewN q) (fun _ t _ => n - (intOf t).toNat)
    case atStart => exact ⟨0, 0, 0, by omega, rfl, rfl, rfl, rfl⟩
    case round =>
      obtain ⟨i, q, x, hi, rfl, rfl, hx, rfl⟩ := hrel
      replace hx : Unit → x = ap a b i := fun _ => hx
      by_cases hlt : i < n
      · obtain ⟨ab, ao, rfl, hal, hac⟩ := sa.at_ (k := i) (by rw [ha.out]; exact hlt)
        obtain ⟨bb, bo, rfl, hbl, hbc⟩ := sb.at_ (k := i) (by rw [hb.out]; exact hlt)
        have hac := hac i (by rw [ha.out]; exact hlt)
        have hbc := hbc i (by rw [hb.out]; exact hlt)
        obtain ⟨y, hy⟩ : ∃ y, a[i]'(by rw [ha.out]; exact hlt) = y := ⟨_, rfl⟩
        obtain ⟨z, hz⟩ : ∃ z, b[i]'(by rw [hb.out]; exact hlt) = z := ⟨_, rfl⟩
        rw [hy] at hac
        rw [hz] at hbc
        obtain ⟨W, hW⟩ : ∃ W, w.drewN q = W := ⟨_, rfl⟩
        have hac' : ∀ k, (W.drewN k).cell? ⟨ab, ao + i, none⟩ = some (.int .u8 (y.toNat : Int)) := fun k => by rw [← hW]; exact hac
        have hbc' : ∀ k, (W.drewN k).cell? ⟨bb, bo + i, none⟩ = some (.int .u8 (z.toNat : Int)) := fun k => by rw [← hW]; exact hbc
        rw [hW]
        replace hW : Unit → w.drewN q = W := fun _ => hW
        have E1 := u8_xor y z
        obtain ⟨u, hu⟩ : ∃ u, y ^^^ z = u := ⟨_, rfl⟩
        rw [hu] at E1
        have E2 := u8_or x u
        obtain ⟨x', hx'⟩ : ∃ x', x ||| u = x' := ⟨_, rfl⟩
        rw [hx'] at E2
        have hnext : Unit → x' = ap a b (i + 1) := fun _ => by
          rw [ap, ← hx (), ← hx', ← hu, ← hy, ← hz]
          simp [List.getD_eq_getElem?_getD, ha.out, hb.out, hlt]
        clear hx hx' hu hy hz hac hbc hend sa sb
        go_wp2_with fail
        go_quiet (fail)
        go_wp2
        go_roundw
        case rel => exact ⟨i + 1, q + nq, x', by omega, by go_num, rfl, hnext (), by rw [← hW ()]; exact World.drewN_drewN ..⟩
        case measure => simp [intOf]; omega
      · obtain rfl : i = n := by omega
        have hend := hend ()
        rw [← hx (), ← u8_zero] at hend
        go_wp2
        go_ret
        exact ⟨congrArg (fun t => Ending.returned (.bool t)) (by rw [← hend]; rfl), q, rfl⟩
  · have hv' : v = false := by
      rw [← hv]; exact decide_eq_false (by rintro rfl; omega)
    subst hv'
    clear hv
    go_enter Tryd.func17, Tryd.ntmps17
    go_wp2
    go_ret
    exact ⟨rfl, 0, rfl⟩
end Go.Proofs.YtmgfgbdfmdblhaaDoor.mac
