/-
  CONTRACTS OF PACKAGE pack: what each of its functions answers, whatever it is handed; what it makes is new.
-/
import Derived.Test.YtmgfgbdfmdblhaaDoorPackMath
import Derived.OpenShut
import Derived.Laws.Bits64b
import Derived.WalkLawsBesides
namespace Go.Proofs.YtmgfgbdfmdblhaaDoor.pack
open Go.RowKit Go.Proofs.YtmgfgbdfmdblhaaDoor.octets

theorem u8_info : (Tryd.prog.info? 5).map (fun i => (i.zero, i.size, i.bytes)) = some (some (.int .u8 0), 1, 1) := by kernel_rfl

/-- bytes of its own, l, and no error -/
def Made (l : List UInt8) (w : World) (e : Ending) (w' : World) : Prop :=
  ∃ b, e = .returned (.tuple #[.slice (some ⟨b, 0, none⟩) l.length l.length, .int .i64 0]) ∧ w.heap.size ≤ b ∧ Row w' b l ∧ Below w.heap.size w w'

theorem pow_8 (k : Nat) : (256 : Nat) ^ k = 2 ^ (8 * k) := by rw [Nat.pow_mul]
theorem div_8 (n k : Nat) : ((n : Int) / 2 ^ (8 * k)) = ((n / 256 ^ k : Nat) : Int) := by rw [pow_8]; simp
theorem lt_64 {n k : Nat} (hk : k ≤ 8) (hf : n < 256 ^ k) : n ≤ 18446744073709551615 := by
  have : 256 ^ k ≤ 256 ^ 8 := Nat.pow_le_pow_right (by decide) hk
  have h8 : (256 : Nat) ^ 8 = 18446744073709551616 := by decide
  omega

/-- '&' with a row of ones -/
theorem and_low (n k : Nat) (hn : n ≤ 18446744073709551615) (hk : k < 8) : bits BinOp.and IntKind.u64 (n : Int) (IntKind.u64.wrap (IntKind.u64.wrap (2 ^ (8 * k)) - 1)) = ((n % 256 ^ k : Nat) : Int) := by
  have hp : 2 ^ (8 * k) ≤ 2 ^ 56 := Nat.pow_le_pow_right (by decide) (by omega)
  have hpos : 0 < 2 ^ (8 * k) := Nat.two_pow_pos _
  have h56 : (2 : Nat) ^ 56 = 72057594037927936 := by decide
  have e : (2 ^ (8 * k) : Int) = ((2 ^ (8 * k) : Nat) : Int) := by simp
  rw [e, pow_8, ← Nat.and_two_pow_sub_one_eq_mod]
  generalize 2 ^ (8 * k) = P at hp hpos
  have e2 : IntKind.u64.wrap (IntKind.u64.wrap (P : Int) - 1) = ((P - 1 : Nat) : Int) := by
    rw [IntKind.wrap_u64, IntKind.wrap_u64]; omega
  rw [e2, bits_and_u64_nat _ _ (by omega) (by omega)]

theorem row_made {w : World} {b k n : Nat} {f : Nat → Value} (h : w.rowIs b 5 k f) (hf : ∀ i, i < k → f i = .int .u8 (((octs k n).getD i 0).toNat : Int)) : Row w b (octs k n) := by
  unfold Row
  rw [octs_len]
  exact h.congr hf

theorem made_of {k n b : Nat} {w w' : World} (h1 : w.heap.size ≤ b) (h2 : Row w' b (octs k n)) (h3 : Below w.heap.size w w') :
    Made (octs k n) w (.returned (.tuple #[.slice (some ⟨b, 0, none⟩) k k, .int .i64 0])) w' := ⟨b, by rw [octs_len], h1, h2, h3⟩

set_option maxHeartbeats 400000 in
theorem put_ok (n k : Nat) (w : World) (hk : k ≤ 8) (hf : n < 256 ^ k) :
    Calls Tryd.prog 22 #[.int .u64 n, .int .i64 k] w (Made (octs k n) w) := by
  have hmk := fun W => run_make_row' (P := Tryd.prog) 23 5 (.int .u8 0) 1 Tryd.underlying23 u8_info rfl .i64 .i64 k (by omega) (by omega) W
  have hn := lt_64 hk hf
  have t1 : decide ((k : Int) < 0) = false := decide_eq_false (by omega)
  have t2 : decide ((8 : Int) < k) = false := decide_eq_false (by omega)
  have t3 : (((n : Int) / 2 ^ (8 * k)) != 0) = false := by
    rw [div_8, Nat.div_eq_of_lt hf]; rfl
  have Hf := Lib.hid hf
  clear hf
  go_enter Tryd.func22, Tryd.ntmps22
  go_wp2
  have hB : w.heap.size < (w.alloc (.cells (madeCells #[.int .u8 0] k) 5)).heap.size := by simp
  go_loopw [24] (fun t wr => ∃ i : Nat, i ≤ k ∧ t = .int .i64 i ∧ Below w.heap.size w wr ∧ wr.rowIs w.heap.size 5 k (fun j => if k - i ≤ j then .int .u8 (((octs k n).getD j 0).toNat : Int) else .int .u8 0)) (fun t _ => k - (intOf t).toNat)
  case atStart => exact ⟨0, by omega, rfl, (Below.refl _ _).alloc (Nat.le_refl _) _, (World.rowIs_made w (.int .u8 0) k 5).congr (fun i hi => by rw [if_neg (by omega)])⟩
  case round =>
    obtain ⟨i, hi, rfl, hb, hr⟩ := hrel
    by_cases hlt : i < k
    · have hcell := hr.cell (i := k - 1 - i) (by omega)
      rw [if_neg (by omega)] at hcell
      have hfr := hr.frozen (k - 1 - i)
      have Hv : Hid (((n : Int) / 2 ^ (8 * i) % 256) = (((octs k n).getD (k - 1 - i) 0).toNat : Int)) := by
        apply Lib.hid
        rw [div_8, octs_byte (by omega), show k - 1 - (k - 1 - i) = i by omega]
        rfl
      go_wp2
      go_roundw
      case rel =>
        refine ⟨i + 1, by omega, by go_num, hb.setCell (Nat.le_refl _) _, (hr.set (k - 1 - i) _).congr (fun j hj => ?_)⟩
        rw [Hv.out]
        by_cases e : j = k - 1 - i
        · subst e; rw [if_pos rfl, if_pos (by omega)]
        · rw [if_neg e]
          by_cases e2 : k - i ≤ j
          · rw [if_pos e2, if_pos (by omega)]
          · rw [if_neg e2, if_neg (by omega)]
      case measure => simp [intOf]; omega
    · obtain rfl : i = k := by omega
      go_wp2
      go_ret2
      exact made_of (Nat.le_refl _) (row_made hr (fun j hj => by rw [if_pos (by omega)])) hb

/-- the same, the arguments spelled as they come -/
theorem put_at (a s : Int) (n k : Nat) (w : World) (ea : a = n) (es : s = k) (hk : k ≤ 8) (hf : n < 256 ^ k) :
    Calls Tryd.prog 22 #[.int .u64 a, .int .i64 s] w (Made (octs k n) w) := by subst ea es; exact put_ok n k w hk hf

set_option maxHeartbeats 400000 in
theorem put_no (n k : Nat) (w : World) (_hn : n ≤ 18446744073709551615) (hk : k ≤ 8) (hf : 256 ^ k ≤ n) :
    Calls Tryd.prog 22 #[.int .u64 n, .int .i64 k] w fun e w' => e = .returned (.tuple #[.slice none 0 0, .int .i64 1]) ∧ w = w' := by
  have t1 : decide ((k : Int) < 0) = false := decide_eq_false (by omega)
  have t2 : decide ((8 : Int) < k) = false := decide_eq_false (by omega)
  have t3 : (((n : Int) / 2 ^ (8 * k)) != 0) = true := by
    have : 1 ≤ n / 256 ^ k := (Nat.le_div_iff_mul_le (Nat.pow_pos (by decide))).2 (by omega)
    rw [div_8, bne_iff_ne]; omega
  have Hf := Lib.hid hf
  clear hf
  go_enter Tryd.func22, Tryd.ntmps22
  go_wp2
  go_ret2
  exact ⟨rfl, rfl⟩

theorem or_8 (a c : Nat) (ha : a < 72057594037927936) (hc : c < 256) : bits BinOp.or IntKind.u64 (((a * 256 : Nat)) : Int) (c : Int) = ((a * 256 + c : Nat) : Int) := by
  rw [bits_or_u64_nat _ _ (by omega) (by omega)]
  have := Nat.shiftLeft_add_eq_or_of_lt (b := c) (i := 8) (by omega) a
  rw [Nat.shiftLeft_eq] at this
  rw [show a * 256 = a * 2 ^ 8 by rfl, ← this]

theorem put_no_at (a s : Int) (n k : Nat) (w : World) (ea : a = n) (es : s = k) (hn : n ≤ 18446744073709551615) (hk : k ≤ 8) (hf : 256 ^ k ≤ n) :
    Calls Tryd.prog 22 #[.int .u64 a, .int .i64 s] w fun e w' => e = .returned (.tuple #[.slice none 0 0, .int .i64 1]) ∧ w = w' := by subst ea es; exact put_no n k w hn hk hf

theorem num_take (l : List UInt8) (i : Nat) (h : i < l.length) : num (l.take (i + 1)) = num (l.take i) * 256 + l[i].toNat := by
  rw [List.take_succ_eq_append_getElem h, num_snoc]

theorem octs2_0 {s : Nat} (h : s < 65536) : ((octs 2 s).getD 0 0).toNat = s / 256 := by rw [octs_byte (by decide)]; omega
theorem octs2_1 {s : Nat} : ((octs 2 s).getD 1 0).toNat = s % 256 := by rw [octs_byte (by decide)]; omega

end Go.Proofs.YtmgfgbdfmdblhaaDoor.pack
