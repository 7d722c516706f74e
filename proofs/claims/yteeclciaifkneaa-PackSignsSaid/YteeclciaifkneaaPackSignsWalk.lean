/-
  THE WALK OF 'PackSigns': the first byte tells the sign; what is one below the opposite has all bits turned.
-/
import Derived.Test.YteeclciaifkneaaPackShown
import Derived.Deep.QuietTactic
import Derived.BigQuiet
namespace Go.Proofs.Yteeclciaifkneaa.walks
open Go.ChangeShapes Go.WideShapes Go.ChangeAt Go.RowKit Go.Proofs.Yteeclciaifkneaa.octets Go.Proofs.Yteeclciaifkneaa.pack
set_option linter.unusedVariables false

theorem turned : ∀ x : BitVec 8, x ^^^ (255#8 - x) = 255#8 := by decide
theorem xor_turned (a b : Nat) (h : a + b = 255) : bits BinOp.xor IntKind.u8 (a : Int) (b : Int) = 255 := by
  show IntKind.u8.wrap ((BitVec.ofInt 8 (a : Int) ^^^ BitVec.ofInt 8 (b : Int)).toNat : Int) = 255
  have e : BitVec.ofInt 8 (b : Int) = 255#8 - BitVec.ofInt 8 (a : Int) := by
    apply BitVec.eq_of_toNat_eq
    rw [BitVec.toNat_sub, BitVec.toNat_ofInt, BitVec.toNat_ofInt]
    simp
    omega
  rw [e, turned]; rfl

theorem below_drewN_signs {B : Nat} {a w : World} (h : Below B a w) (n : Nat) : Below B a (w.drewN n) := ⟨h.os, h.tape, h.output, h.size, h.block⟩

set_option maxRecDepth 100000 in
set_option maxHeartbeats 1000000 in
theorem signs_core (a0 : Int) (u : Nat) (w : World) (hu : u < 65536) (eN : bits BinOp.and IntKind.i64 a0 65535 = (u : Int)) (P0 P1 Q0 Q1 : Nat) (s r : Nat)
    (hs : Hid (sign ((u : Int) - 32768) = s)) (hr : Hid (r = 65535 - s)) (hP0 : Hid (s / 256 = P0)) (hP1 : Hid (s % 256 = P1)) (hQ0 : Hid (r / 256 = Q0)) (hQ1 : Hid (r % 256 = Q1)) (hs1 : s < 65536) (hr1 : r < 65536)
    (t : Bool) (ht : decide ((128 : Int) ≤ P0) = t) (ht' : decide ((u : Int) - 32768 < 0) = t) (x0 : bits BinOp.xor IntKind.u8 (P0 : Int) (Q0 : Int) = 255) (x1 : bits BinOp.xor IntKind.u8 (P1 : Int) (Q1 : Int) = 255) :
    Calls Try.prog 7 #[.int .i64 a0] w fun e w' => e = .returned (.bool true) ∧ Below w.heap.size w w' := by
  go_enter Try.func7, Try.ntmps7
  try dsimp only [List.append]
  go_wp2_with fail
  (with_reducible refine (shown_any _).mono ?_)
  rintro e w1 ⟨rfl, hw1⟩
  go_wp2_with fail
  clear eN
  (with_reducible refine (putInt_at _ s _ ?_ ?_ ?_).mono ?_)
  · omega
  · omega
  · exact hs.out
  rintro e w2 ⟨p, rfl, hp, hr2, hw2⟩
  go_wp2_with fail
  (with_reducible refine (putInt_at _ r _ ?_ ?_ ?_).mono ?_)
  · omega
  · omega
  · have h1 := hs.out; have h2 := hr.out; unfold sign at h1 ⊢; omega
  rintro e w3 ⟨q, rfl, hq, hr3, hw3⟩
  rw [octs_len, octs_len]
  have k0 := (hr2.since hw3).cell (i := 0) (by rw [octs_len]; decide)
  have k1 := (hr2.since hw3).cell (i := 1) (by rw [octs_len]; decide)
  have l0 := hr3.cell (i := 0) (by rw [octs_len]; decide)
  have l1 := hr3.cell (i := 1) (by rw [octs_len]; decide)
  rw [octs2_0 hs1, hP0.out] at k0
  rw [octs2_1, hP1.out] at k1
  rw [octs2_0 hr1, hQ0.out] at l0
  rw [octs2_1, hQ1.out] at l1
  have hw13 := (hw1.trans (hw2.mono hw1.size))
  have hw14 := hw13.trans (hw3.mono hw13.size)
  clear hr2 hr3 hw1 hw2 hw3 hw13
  go_wp2_with fail
  go_quiet (fail)
  go_wp2
  go_ret
  exact ⟨rfl, below_drewN_signs hw14 _⟩

theorem packSigns (a0 : Int) (w : World) (w0 : (Lit.int .i64 a0).wf = true) :
    Calls Try.prog 7 #[.int .i64 a0] w fun e w' => e = .returned (.bool true) ∧ Below w.heap.size w w' := by
  obtain ⟨u, hu⟩ := Int.eq_ofNat_of_zero_le (Int.emod_nonneg a0 (show (65536 : Int) ≠ 0 by decide))
  have hl := Int.emod_lt_of_pos a0 (show (0 : Int) < 65536 by decide)
  have hsl := sign_lt ((u : Int) - 32768)
  have hs : (sign ((u : Int) - 32768) : Int) = ((u : Int) - 32768) % 65536 := by unfold sign; omega
  obtain ⟨s, es⟩ : ∃ s, sign ((u : Int) - 32768) = s := ⟨_, rfl⟩
  rw [es] at hs hsl
  refine signs_core a0 u w (by omega) ((and_16 a0).trans hu) (s / 256) (s % 256) ((65535 - s) / 256) ((65535 - s) % 256) s (65535 - s) (Lib.hid es) (Lib.hid rfl) (Lib.hid rfl) (Lib.hid rfl) (Lib.hid rfl) (Lib.hid rfl) (by omega) (by omega)
    _ rfl ?_ (xor_turned _ _ (by omega)) (xor_turned _ _ (by omega))
  rw [Bool.eq_iff_iff, decide_eq_true_iff, decide_eq_true_iff]
  omega
end Go.Proofs.Yteeclciaifkneaa.walks
