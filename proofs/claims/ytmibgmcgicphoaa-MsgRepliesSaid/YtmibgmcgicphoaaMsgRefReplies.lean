/-
  CONTRACTS OF msg's reference: replies, FitReply.
-/
import Derived.Test.YtmibgmcgicphoaaMsgFit
namespace Go.Proofs.Ytmibgmcgicphoaa.msg
open Go.RowKit Go.Proofs.Ytmibgmcgicphoaa.octets Go.Proofs.Ytmibgmcgicphoaa.pack
set_option linter.unusedVariables false
set_option linter.unusedSimpArgs false

/-- a reply, its nonce byte by byte -/
def rv8 (k s r wh e c : Int) (a0 a1 a2 a3 a4 a5 a6 a7 : UInt8) : List Value :=
  [.int .i64 k, .int .i64 s, .int .i64 r, .int .i64 wh, .int .i64 e, .int .i64 c, .int .u8 (a0.toNat : Int), .int .u8 (a1.toNat : Int), .int .u8 (a2.toNat : Int), .int .u8 (a3.toNat : Int), .int .u8 (a4.toNat : Int), .int .u8 (a5.toNat : Int), .int .u8 (a6.toNat : Int), .int .u8 (a7.toNat : Int)]

def rz (k s r wh e c : Int) : List Value := [.int .i64 k, .int .i64 s, .int .i64 r, .int .i64 wh, .int .i64 e, .int .i64 c, .int .u8 0, .int .u8 0, .int .u8 0, .int .u8 0, .int .u8 0, .int .u8 0, .int .u8 0, .int .u8 0]

set_option maxRecDepth 100000 in
set_option maxHeartbeats 2000000 in
theorem replies_129 (seq role who epoch code : Int) (a0 a1 a2 a3 a4 a5 a6 a7 : UInt8) (w : World) :
    Calls Try.prog 33 #[.agg (rv8 129 seq role who epoch code a0 a1 a2 a3 a4 a5 a6 a7).toArray] w fun e w' => e = .returned (.agg (rv8 129 0 0 0 0 0 a0 a1 a2 a3 a4 a5 a6 a7).toArray) ∧ Below w.heap.size w w' := by
  simp only [rv8, rz]
  go_enter Try.func33, Try.ntmps33
  go_wp2
  exact ret_arr rfl (w.heap.size + 1) _ _ rfl (arr_mid w _ _ _ _ _ rfl) Try.underlying28 rfl (by kernel_rfl) rfl ⟨rfl, below3 _ _ _ _⟩
set_option maxRecDepth 100000 in
set_option maxHeartbeats 2000000 in
theorem replies_130 (seq role who epoch code : Int) (a0 a1 a2 a3 a4 a5 a6 a7 : UInt8) (w : World) :
    Calls Try.prog 33 #[.agg (rv8 130 seq role who epoch code a0 a1 a2 a3 a4 a5 a6 a7).toArray] w fun e w' => e = .returned (.agg (rz 130 0 role who epoch 0).toArray) ∧ Below w.heap.size w w' := by
  simp only [rv8, rz]
  go_enter Try.func33, Try.ntmps33
  go_wp2
  exact ret_arr rfl (w.heap.size + 1) _ _ rfl (arr_mid w _ _ _ _ _ rfl) Try.underlying28 rfl (by kernel_rfl) rfl ⟨rfl, below3 _ _ _ _⟩
set_option maxRecDepth 100000 in
set_option maxHeartbeats 2000000 in
theorem replies_131 (seq role who epoch code : Int) (a0 a1 a2 a3 a4 a5 a6 a7 : UInt8) (w : World) :
    Calls Try.prog 33 #[.agg (rv8 131 seq role who epoch code a0 a1 a2 a3 a4 a5 a6 a7).toArray] w fun e w' => e = .returned (.agg (rz 131 seq 0 0 0 0).toArray) ∧ Below w.heap.size w w' := by
  simp only [rv8, rz]
  go_enter Try.func33, Try.ntmps33
  go_wp2
  exact ret_arr rfl (w.heap.size + 1) _ _ rfl (arr_mid w _ _ _ _ _ rfl) Try.underlying28 rfl (by kernel_rfl) rfl ⟨rfl, below3 _ _ _ _⟩
set_option maxRecDepth 100000 in
set_option maxHeartbeats 2000000 in
theorem replies_132 (seq role who epoch code : Int) (a0 a1 a2 a3 a4 a5 a6 a7 : UInt8) (w : World) :
    Calls Try.prog 33 #[.agg (rv8 132 seq role who epoch code a0 a1 a2 a3 a4 a5 a6 a7).toArray] w fun e w' => e = .returned (.agg (rz 132 seq 0 0 0 code).toArray) ∧ Below w.heap.size w w' := by
  simp only [rv8, rz]
  go_enter Try.func33, Try.ntmps33
  go_wp2
  exact ret_arr rfl (w.heap.size + 1) _ _ rfl (arr_mid w _ _ _ _ _ rfl) Try.underlying28 rfl (by kernel_rfl) rfl ⟨rfl, below3 _ _ _ _⟩
set_option maxRecDepth 100000 in
set_option maxHeartbeats 2000000 in
theorem replies_133 (seq role who epoch code : Int) (a0 a1 a2 a3 a4 a5 a6 a7 : UInt8) (w : World) :
    Calls Try.prog 33 #[.agg (rv8 133 seq role who epoch code a0 a1 a2 a3 a4 a5 a6 a7).toArray] w fun e w' => e = .returned (.agg (rz 133 0 0 0 epoch 0).toArray) ∧ Below w.heap.size w w' := by
  simp only [rv8, rz]
  go_enter Try.func33, Try.ntmps33
  go_wp2
  exact ret_arr rfl (w.heap.size + 1) _ _ rfl (arr_mid w _ _ _ _ _ rfl) Try.underlying28 rfl (by kernel_rfl) rfl ⟨rfl, below3 _ _ _ _⟩
set_option maxRecDepth 100000 in
set_option maxHeartbeats 2000000 in
theorem replies_134 (seq role who epoch code : Int) (a0 a1 a2 a3 a4 a5 a6 a7 : UInt8) (w : World) :
    Calls Try.prog 33 #[.agg (rv8 134 seq role who epoch code a0 a1 a2 a3 a4 a5 a6 a7).toArray] w fun e w' => e = .returned (.agg (rz 134 0 0 who epoch 0).toArray) ∧ Below w.heap.size w w' := by
  simp only [rv8, rz]
  go_enter Try.func33, Try.ntmps33
  go_wp2
  exact ret_arr rfl (w.heap.size + 1) _ _ rfl (arr_mid w _ _ _ _ _ rfl) Try.underlying28 rfl (by kernel_rfl) rfl ⟨rfl, below3 _ _ _ _⟩
set_option maxRecDepth 100000 in
set_option maxHeartbeats 2000000 in
theorem replies_135 (seq role who epoch code : Int) (a0 a1 a2 a3 a4 a5 a6 a7 : UInt8) (w : World) :
    Calls Try.prog 33 #[.agg (rv8 135 seq role who epoch code a0 a1 a2 a3 a4 a5 a6 a7).toArray] w fun e w' => e = .returned (.agg (rz 135 0 0 who epoch 0).toArray) ∧ Below w.heap.size w w' := by
  simp only [rv8, rz]
  go_enter Try.func33, Try.ntmps33
  go_wp2
  exact ret_arr rfl (w.heap.size + 1) _ _ rfl (arr_mid w _ _ _ _ _ rfl) Try.underlying28 rfl (by kernel_rfl) rfl ⟨rfl, below3 _ _ _ _⟩
set_option maxRecDepth 100000 in
set_option maxHeartbeats 2000000 in
theorem replies_136 (seq role who epoch code : Int) (a0 a1 a2 a3 a4 a5 a6 a7 : UInt8) (w : World) :
    Calls Try.prog 33 #[.agg (rv8 136 seq role who epoch code a0 a1 a2 a3 a4 a5 a6 a7).toArray] w fun e w' => e = .returned (.agg (rz 136 0 0 who 0 code).toArray) ∧ Below w.heap.size w w' := by
  simp only [rv8, rz]
  go_enter Try.func33, Try.ntmps33
  go_wp2
  exact ret_arr rfl (w.heap.size + 1) _ _ rfl (arr_mid w _ _ _ _ _ rfl) Try.underlying28 rfl (by kernel_rfl) rfl ⟨rfl, below3 _ _ _ _⟩
set_option maxRecDepth 100000 in
set_option maxHeartbeats 2000000 in
theorem replies_no (kind : Int) (seq role who epoch code : Int) (a0 a1 a2 a3 a4 a5 a6 a7 : UInt8) (w : World) (n1 : ¬ kind = 129) (n2 : ¬ kind = 130) (n3 : ¬ kind = 131) (n4 : ¬ kind = 132) (n5 : ¬ kind = 133) (n6 : ¬ kind = 134) (n7 : ¬ kind = 135) (n8 : ¬ kind = 136) :
    Calls Try.prog 33 #[.agg (rv8 kind seq role who epoch code a0 a1 a2 a3 a4 a5 a6 a7).toArray] w fun e w' => e = .returned (.agg (rz kind 0 0 0 0 0).toArray) ∧ Below w.heap.size w w' := by
  simp only [rv8, rz]
  go_enter Try.func33, Try.ntmps33
  go_wp2
  exact ret_arr rfl (w.heap.size + 1) _ _ rfl (arr_mid w _ _ _ _ _ rfl) Try.underlying28 rfl (by kernel_rfl) rfl ⟨rfl, below3 _ _ _ _⟩
theorem replies_ok (r : R) (h8 : r.nonce.length = 8) (w : World) : Calls Try.prog 33 #[.agg (rv r).toArray] w fun e w' => e = .returned (.agg (rv (namedR r)).toArray) ∧ Below w.heap.size w w' := by
  obtain ⟨kind, seq, role, who, epoch, code, nonce⟩ := r
  obtain ⟨a0, a1, a2, a3, a4, a5, a6, a7, rfl⟩ := eight h8
  clear h8
  by_cases hk : kind = 129 ∨ kind = 130 ∨ kind = 131 ∨ kind = 132 ∨ kind = 133 ∨ kind = 134 ∨ kind = 135 ∨ kind = 136
  · rcases hk with rfl | rfl | rfl | rfl | rfl | rfl | rfl | rfl
    · exact replies_129 seq role who epoch code a0 a1 a2 a3 a4 a5 a6 a7 w
    · exact replies_130 seq role who epoch code a0 a1 a2 a3 a4 a5 a6 a7 w
    · exact replies_131 seq role who epoch code a0 a1 a2 a3 a4 a5 a6 a7 w
    · exact replies_132 seq role who epoch code a0 a1 a2 a3 a4 a5 a6 a7 w
    · exact replies_133 seq role who epoch code a0 a1 a2 a3 a4 a5 a6 a7 w
    · exact replies_134 seq role who epoch code a0 a1 a2 a3 a4 a5 a6 a7 w
    · exact replies_135 seq role who epoch code a0 a1 a2 a3 a4 a5 a6 a7 w
    · exact replies_136 seq role who epoch code a0 a1 a2 a3 a4 a5 a6 a7 w
  · have e : namedR ⟨kind, seq, role, who, epoch, code, [a0, a1, a2, a3, a4, a5, a6, a7]⟩ = ⟨kind, 0, 0, 0, 0, 0, z8⟩ := by
      have n1 : ¬ kind = 129 := by omega
      have n2 : ¬ kind = 130 := by omega
      have n3 : ¬ kind = 131 := by omega
      have n4 : ¬ kind = 132 := by omega
      have n5 : ¬ kind = 133 := by omega
      have n6 : ¬ kind = 134 := by omega
      have n7 : ¬ kind = 135 := by omega
      have n8 : ¬ kind = 136 := by omega
      simp only [namedR, n1, n2, n3, n4, n5, n6, n7, n8, or_self, if_false]
      rfl
    rw [e]
    exact replies_no kind seq role who epoch code a0 a1 a2 a3 a4 a5 a6 a7 w (by omega) (by omega) (by omega) (by omega) (by omega) (by omega) (by omega) (by omega)
end Go.Proofs.Ytmibgmcgicphoaa.msg
