/-
  THE WALK OF 'CrcAll': the sum of any bytes, and with a byte more, is as the document says.
-/
import Derived.Test.YtlepghjfbcbcpaaCrcShown
namespace Go.Proofs.Ytlepghjfbcbcpaa.walks
open Go.ChangeShapes Go.WideShapes Go.ChangeAt Go.RowKit Go.Proofs.Ytlepghjfbcbcpaa.octets Go.Proofs.Ytlepghjfbcbcpaa.crc Go.Proofs.Ytlepghjfbcbcpaa.given
set_option linter.unusedVariables false

set_option maxRecDepth 100000 in
set_option maxHeartbeats 1000000 in
theorem crcAll (a : Option Addr) (len cap : Nat) (z : List Int) (a1 a2 : Int) (w : World) (w0 : Nums .u8 w a len cap z) (w1 : (Lit.int .u16 a1).wf = true) (w2 : (Lit.int .u8 a2).wf = true) :
    Calls Try.prog 3 #[.slice a len cap, .int .u16 a1, .int .u8 a2] w fun e w' => e = .returned (.bool true) ∧ Below w.heap.size w w' := by
  obtain ⟨s, rfl, hs⟩ := u16_came w1
  obtain ⟨c, rfl, hc⟩ := u8_came w2
  obtain ⟨l, rfl, hl, hcap⟩ := seen_nums w0
  clear w0 w1 w2
  obtain ⟨m, hm⟩ : ∃ m, m = min l.length 300 := ⟨_, rfl⟩
  have hlen : (l.take m).length = m := by simp; omega
  have hm3 : m ≤ 1048576 := by omega
  replace hm := Lib.hid hm
  replace hlen := Lib.hid hlen
  obtain ⟨v, hv⟩ : ∃ v, sumL 65535 (l.take m) = v := ⟨_, rfl⟩
  replace hv := Lib.hid hv
  go_enter Try.func3, Try.ntmps3
  try dsimp only [List.append]
  go_wp2_with fail
  (with_reducible refine (shown_any _).mono ?_)
  rintro e w1 ⟨rfl, hw1⟩
  have hl1 := (hl.since hw1).take m
  clear hl
  go_wp2_with fail
  (with_reducible refine (few_ok a l.length cap m _ hcap hm.out).mono ?_)
  rintro e w' ⟨rfl, rfl⟩
  go_wp2_with fail
  (with_reducible refine (sum_at _ m _ _ v _ hlen.out hm3 hl1 hv.out).mono ?_)
  rintro e w' ⟨rfl, rfl⟩
  go_wp2_with fail
  (with_reducible refine (rsum_at _ m _ _ v _ hlen.out hm3 hl1 hv.out).mono ?_)
  rintro e w' ⟨rfl, rfl⟩
  go_wp2_with fail
  (with_reducible refine (step_ok s c _ hs hc).mono ?_)
  rintro e w' ⟨rfl, rfl⟩
  go_wp2_with fail
  (with_reducible refine (rstep_ok s c _ hs hc).mono ?_)
  rintro e w' ⟨rfl, rfl⟩
  go_wp2
  go_ret
  exact ⟨rfl, hw1⟩
end Go.Proofs.Ytlepghjfbcbcpaa.walks
