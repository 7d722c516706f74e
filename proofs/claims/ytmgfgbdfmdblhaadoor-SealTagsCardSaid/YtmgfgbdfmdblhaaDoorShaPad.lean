/-
  THE CONTRACTS OF Pad, and of the reference's.
-/
import Derived.Test.YtmgfgbdfmdblhaaDoorShaPadMath
import Derived.Test.YtmgfgbdfmdblhaaDoorSha
import Derived.Laws.BitsAllLaws
namespace Go.Proofs.YtmgfgbdfmdblhaaDoor.sha
open Go.RowKit Go.Proofs.YtmgfgbdfmdblhaaDoor.octets
set_option linter.unusedVariables false
set_option maxHeartbeats 400000 in
theorem padded_ok (n P : Nat) (w : World) (hn : n ≤ 1048576) (hP : padN n = P) :
    Calls Tryd.prog 29 #[.int .i64 (n : Int)] w fun e w' => e = .returned (.int .i64 (P : Int)) ∧ w = w' := by
  have E : Hid ((P : Int) = ((n : Int) + 1 + 8 + 64 - 1) / 64 * 64) := Lib.hid (by rw [← hP, padN]; omega)
  clear hP
  go_enter Tryd.func29, Tryd.ntmps29
  go_wp2
  go_ret
  rw [E.out]
  exact ⟨rfl, rfl⟩
theorem byte_int (m i : Nat) (x : Int) (hx : x = (m : Int)) : x / 2 ^ (8 * i) % 256 = ((UInt8.ofNat (m / 256 ^ i)).toNat : Int) := by
  have e : (256 : Nat) ^ i = 2 ^ (8 * i) := by rw [Nat.pow_mul]
  have e2 : ((2 : Int) ^ (8 * i)) = ((2 ^ (8 * i) : Nat) : Int) := by rw [Int.natCast_pow]; rfl
  rw [hx, UInt8.toNat_ofNat', e, e2, ← Int.natCast_ediv]
  generalize m / 2 ^ (8 * i) = y
  omega
set_option maxHeartbeats 1000000 in
theorem pad_ok (A : Option Addr) (cap : Nat) (l : List UInt8) (P : Nat) (w : World) (hl : l.length ≤ 1048576) (hr : Seen w A l) (hP : padN l.length = P) :
    Calls Tryd.prog 26 #[.slice A l.length cap] w fun e w' => ∃ b, e = .returned (.slice (some ⟨b, 0, none⟩) P P) ∧ w.heap.size ≤ b ∧ Held w' b P (padL l) ∧ Below w.heap.size w w' := by
  have hge := padN_ge l.length
  have hle := padN_le l.length
  rw [hP] at hge hle
  have hmk := fun W => run_make_row' (P := Tryd.prog) 23 5 (.int .u8 0) 1 Tryd.underlying23 u8_info rfl .i64 .i64 P (by omega) (by omega) W
  replace hP : Unit → padN l.length = P := fun _ => hP
  go_enter Tryd.func26, Tryd.ntmps26
  go_wp2_with fail
  (with_reducible refine (padded_ok _ P _ hl (hP ())).mono ?_)
  rintro e w1 ⟨rfl, rfl⟩
  have hw1 := (Below.refl w.heap.size w).alloc (Nat.le_refl _) (.cells (madeCells #[.int .u8 0] P) 5)
  have hX := Held.made w P (by simp [maxLen]; omega)
  have hr1 := hr.alloc (.cells (madeCells #[.int .u8 0] P) 5)
  go_wp2_with (guard_target =~ wpList _ _ _ (Oper.mk _ (Op.call ⟨Callee.builtin Builtin.copy, _, _⟩) _ _ _ _ :: _) _ _; refine wpList_copy_held _ rfl (.tmp 10) (.tmp 11) rfl w.heap.size P P rfl (List.replicate P 0) (by simp) P hX A l.length cap rfl l rfl hr1 ?_)
  intro w2 hX2 ho2 hb2 hs2
  have hw2 := hw1.trans hb2
  have hc0 := hX2.cell (i := l.length) (by rw [laid_len, List.length_replicate]; omega)
  have hf0 := hX2.frozen l.length
  have hset := hX2.set l.length 128
  rw [← hP (), padS_start, hP ()] at hset
  replace hset : Hid (Held (w2.setCell ⟨w.heap.size, l.length, none⟩ (.int .u8 128)) w.heap.size P (padS l 0)) := Lib.hid hset
  have hw3 := hw2.setCell (p := ⟨w.heap.size, l.length, none⟩) (Nat.le_refl _) (.int .u8 128)
  generalize ((laid (List.replicate P 0) l)[l.length]'(by rw [laid_len, List.length_replicate]; omega)) = c at hc0
  clear hX2 hX ho2 hb2 hs2 hw1 hw2 hr1 hmk
  go_wp2
  generalize w2.setCell ⟨w.heap.size, l.length, none⟩ (.int .u8 128) = w3 at hset hw3 ⊢
  clear hc0 hf0
  go_loopw [21] (fun t wr => ∃ i : Nat, i ≤ 8 ∧ t = .int .i64 i ∧ Below w.heap.size w wr ∧ Held wr w.heap.size P (padS l i)) (fun t _ => 8 - (intOf t).toNat)
  case atStart => exact ⟨0, by omega, rfl, hw3, hset.out⟩
  case round =>
    clear hset hw3
    obtain ⟨i, hi, rfl, hw, hX⟩ := hrel
    by_cases hlt : i < 8
    · have hlen := padS_len l (i := i) hi
      rw [hP ()] at hlen
      have hc := hX.cell (i := P - 1 - i) (by rw [hlen]; omega)
      have hf := hX.frozen (P - 1 - i)
      have hset := hX.set (P - 1 - i) (UInt8.ofNat (8 * l.length / 256 ^ i))
      have E := byte_int (8 * l.length) i ((l.length : Int) * 8) (by omega)
      obtain ⟨c, hcc⟩ : ∃ c, UInt8.ofNat (8 * l.length / 256 ^ i) = c := ⟨_, rfl⟩
      rw [← hP (), padS_set l hlt _ rfl, hP (), hcc] at hset
      rw [hcc] at E
      replace hset := Lib.hid hset
      generalize (padS l i)[P - 1 - i]'(by rw [hlen]; omega) = old at hc
      clear hlen hcc
      go_wp2
      go_roundw
      case rel => exact ⟨i + 1, by omega, by go_num, hw.setCell (Nat.le_refl _) _, hset.out⟩
      case measure => simp [intOf]; omega
    · obtain rfl : i = 8 := by omega
      rw [padS_eight] at hX
      go_wp2
      go_ret
      exact ⟨w.heap.size, rfl, Nat.le_refl _, hX, hw⟩

theorem byte_and (m i : Nat) (hm : m < 18446744073709551616) (x : Int) (hx : x = (m : Int)) : bits BinOp.and IntKind.u64 (x / 2 ^ (8 * i)) 255 = ((UInt8.ofNat (m / 256 ^ i)).toNat : Int) := by
  have e : (256 : Nat) ^ i = 2 ^ (8 * i) := by rw [Nat.pow_mul]
  have e2 : ((2 : Int) ^ (8 * i)) = ((2 ^ (8 * i) : Nat) : Int) := by rw [Int.natCast_pow]; rfl
  have hle : m / 2 ^ (8 * i) ≤ m := Nat.div_le_self _ _
  rw [hx, UInt8.toNat_ofNat', e, e2, ← Int.natCast_ediv]
  generalize m / 2 ^ (8 * i) = y at hle
  have h := bits_and_u64_nat y 255 (by omega) (by decide)
  have e3 : y &&& 255 = y % 2 ^ 8 := Nat.and_two_pow_sub_one_eq_mod y 8
  rw [e3] at h
  exact h
/-- the reference's, of which k noughts are there, and j bytes of the count -/
def rpadS (l : List UInt8) (k j : Nat) : List UInt8 := l ++ 128 :: (List.replicate k 0 ++ (octs 8 (8 * l.length)).take j)
theorem rpadS_len (l : List UInt8) (k j : Nat) (hj : j ≤ 8) : (rpadS l k j).length = l.length + 1 + k + j := by
  simp [rpadS, octs_len]; omega
theorem rpadS_nought (l : List UInt8) (k : Nat) : rpadS l k 0 ++ [0] = rpadS l (k + 1) 0 := by
  simp [rpadS, List.replicate_succ']
theorem rpadS_byte (l : List UInt8) (k j : Nat) (hj : j < 8) : rpadS l k j ++ [UInt8.ofNat (8 * l.length / 256 ^ (7 - j))] = rpadS l k (j + 1) := by
  have h8 : j < (octs 8 (8 * l.length)).length := by rw [octs_len]; exact hj
  have h := octs_get 8 (8 * l.length) j hj
  rw [List.getD_eq_getElem?_getD, List.getElem?_eq_getElem h8, Option.getD_some] at h
  rw [rpadS, rpadS, List.take_succ_eq_append_getElem h8, h]
  simp
theorem rpadS_all (l : List UInt8) : rpadS l (padN l.length - l.length - 9) 8 = padL l := by
  rw [rpadS, padL, List.take_of_length_le (by rw [octs_len]; omega)]
end Go.Proofs.YtmgfgbdfmdblhaaDoor.sha
