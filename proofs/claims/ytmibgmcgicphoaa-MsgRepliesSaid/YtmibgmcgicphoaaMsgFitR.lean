/-
  CONTRACTS OF msg's reference: FitReply, fits.
-/
import Derived.Test.YtmibgmcgicphoaaMsgRefReplies
namespace Go.Proofs.Ytmibgmcgicphoaa.msg
open Go.RowKit Go.Proofs.Ytmibgmcgicphoaa.octets Go.Proofs.Ytmibgmcgicphoaa.pack
set_option linter.unusedVariables false
set_option linter.unusedSimpArgs false

set_option maxRecDepth 100000 in
set_option maxHeartbeats 2000000 in
theorem fitR_is (r : R) (h8 : r.nonce.length = 8) (w : World) : Calls Try.prog 20 #[.agg (rv r).toArray] w fun e w' => e = .returned (.agg (rv (fitR r)).toArray) ∧ Below w.heap.size w w' := by
  obtain ⟨kind, seq, role, who, epoch, code, nonce⟩ := r
  obtain ⟨a0, a1, a2, a3, a4, a5, a6, a7, rfl⟩ := eight h8
  clear h8
  show Calls _ _ #[.agg (rv8 kind seq role who epoch code a0 a1 a2 a3 a4 a5 a6 a7).toArray] _ _
  simp only [rv8]
  go_enter Try.func20, Try.ntmps20
  go_wp2_with fail
  simp only [tm5, wr129, and_32, and_2, and_16, and_3, and_8]
  refine (replies_ok ⟨129 + kind % 8, seq % 4294967296, role % 4, who % 5, epoch % 65536, code % 256, [a0, a1, a2, a3, a4, a5, a6, a7]⟩ rfl _).mono ?_
  rintro e w2 ⟨rfl, hb2⟩
  have hA2 := (arr_snd w _ (rv zR) _ 28 rfl).since hb2
  have hw2 := (below2 w _ _).trans (hb2.mono (below2 w _ _).size)
  clear hb2
  go_wp2_with (guard_target =~ wpList _ _ _ (Oper.mk _ (Op.store _ _ _) _ _ _ _ :: _) _ _; refine wpList_store_arr (cs' := rv (fitR ⟨kind, seq, role, who, epoch, code, [a0, a1, a2, a3, a4, a5, a6, a7]⟩)) 14 rfl rfl rfl rfl hA2 (by kernel_rfl) rfl (rv_len _ (fitR_eight _ rfl)) (rv_one _) ?_)
  intro w3 hA3 ho3 hb3 hs3
  have hw3 := hw2.trans (hb3.mono (Nat.le_succ _))
  go_wp2
  exact ret_arr rfl (w.heap.size + 1) _ _ rfl hA3 Try.underlying28 rfl (by rw [rv_len _ (fitR_eight _ rfl)]; kernel_rfl) rfl ⟨rfl, hw3⟩
end Go.Proofs.Ytmibgmcgicphoaa.msg
