/-
  THE WALK OF 'CrcApart': no two sums come to the same by one byte, and no two bytes from one sum.
-/
import Derived.Test.YtlepghjfbcbcpaaCrcShown
import Derived.Deep.RegionWith
import Derived.Deep.QuietTactic
import Derived.BigQuiet
namespace Go.Proofs.Ytlepghjfbcbcpaa.walks
open Go.ChangeShapes Go.WideShapes Go.ChangeAt Go.RowKit Go.Proofs.Ytlepghjfbcbcpaa.octets Go.Proofs.Ytlepghjfbcbcpaa.crc Go.Proofs.Ytlepghjfbcbcpaa.given
set_option linter.unusedVariables false

theorem below_drawn {B : Nat} {a w : World} (h : Below B a w) (n : Nat) : Below B a (w.drewN n) := ⟨h.os, h.tape, h.output, h.size, h.block⟩
theorem step_at (s c v : Nat) (w : World) (h : s < 65536) (hc : c < 256) (hv : stp s c = v) :
    Calls Try.prog 13 #[.int .u16 s, .int .u8 c] w fun e w' => e = .returned (.int .u16 v) ∧ w = w' := by subst hv; exact step_ok s c w h hc
theorem quiet_eq {f : FuncId} {args : Array Value} {w : World} {n : Nat} {v : Value} (h : Calls Try.prog f args (w.drewN n) fun e w' => e = .returned v ∧ w.drewN n = w') :
    Calls Try.prog f args (w.drewN n) fun e w'' => e = .returned v ∧ ∃ m, w'' = w.drewN m := h.mono fun _ _ ⟨he, hm⟩ => ⟨he, n, hm.symm⟩
theorem same_beq {p q a b : Nat} (h : p = q ↔ a = b) : (((p : Int) == (q : Int)) == ((a : Int) == (b : Int))) = true := by
  rw [beq_iff_eq, Bool.eq_iff_iff, beq_iff_eq, beq_iff_eq]
  constructor <;> intro e <;> have := h <;> omega

set_option maxRecDepth 100000 in
set_option maxHeartbeats 1000000 in
theorem crcApart (a0 a1 : Int) (v2 : Value) (w : World) {base : Nat} (w0 : (Lit.int .u16 a0).wf = true) (w1 : (Lit.int .u16 a1).wf = true) (w2 : Value.okWide Try.prog w .any base 32 v2) :
    Calls Try.prog 7 #[.int .u16 a0, .int .u16 a1, v2] w fun e w' => e = .returned (.bool true) ∧ Below w.heap.size w w' := by
  obtain ⟨a, rfl, ha⟩ := u16_came w0
  obtain ⟨b, rfl, hb⟩ := u16_came w1
  obtain ⟨c0, c1, rfl, k0, k1⟩ := agg_two (.inl ⟨2, _, Try.underlying32⟩) (by kernel_rfl) (by kernel_rfl) w2
  obtain ⟨s0, rfl, g0⟩ := int_of_cell Try.underlying5 k0
  obtain ⟨s1, rfl, g1⟩ := int_of_cell Try.underlying5 k1
  obtain ⟨c, rfl, hc⟩ := u8_came g0
  obtain ⟨d, rfl, hd⟩ := u8_came g1
  clear w0 w1 w2 k0 k1 g0 g1
  have q1 := same_beq (stp_sum ha hb hc)
  have q2 := same_beq (stp_byte ha hc hd)
  obtain ⟨p, hp⟩ : ∃ p, stp a c = p := ⟨_, rfl⟩
  obtain ⟨q, hq⟩ : ∃ q, stp b c = q := ⟨_, rfl⟩
  obtain ⟨r, hr⟩ : ∃ r, stp a d = r := ⟨_, rfl⟩
  rw [hp, hq] at q1
  rw [hp, hr] at q2
  replace hp := Lib.hid hp
  replace hq := Lib.hid hq
  replace hr := Lib.hid hr
  go_enter Try.func7, Try.ntmps7
  try dsimp only [List.append]
  go_wp2_with fail
  (with_reducible refine (shown_any _).mono ?_)
  rintro e w1 ⟨rfl, hw1⟩
  have hbox : ∀ n, (w1.drewN n).cell? ⟨w.heap.size, 0, none⟩ = some (.int .u8 c) := by intro n; show w1.cell? _ = _; rw [hw1.cell (by simp)]; simp
  have hbox1 : ∀ n, (w1.drewN n).cell? ⟨w.heap.size, 1, none⟩ = some (.int .u8 d) := by intro n; show w1.cell? _ = _; rw [hw1.cell (by simp)]; simp
  have hw01 : Below w.heap.size w w1 := ((Below.refl _ _).alloc (Nat.le_refl _) _).trans (hw1.mono (by simp))
  clear hw1
  go_wp2_with fail
  go_quiet (first | (go_at_call_of 13 (Value.int .u16 (b : Int)); exact quiet_eq (step_at b c q _ hb hc hq.out)) | (go_at_call_of 13 (Value.int .u8 (d : Int)); exact quiet_eq (step_at a d r _ ha hd hr.out)) | (go_at_call 13; exact quiet_eq (step_at a c p _ ha hc hp.out)))
  go_wp2
  go_ret
  exact ⟨rfl, below_drawn hw01 _⟩
end Go.Proofs.Ytlepghjfbcbcpaa.walks
