/-
  WHAT IS ASKED OF THE CODE's Put, Take, PutReply, TakeReply, as one statement (its proof: XMsgProof, when stage 8 has landed).
-/
import Derived.Test.YtmibgmcgicphoaaMsgVal
namespace Go.Proofs.Ytmibgmcgicphoaa.msg
open Go.RowKit Go.Proofs.Ytmibgmcgicphoaa.octets
set_option linter.unusedVariables false

structure CodeOk : Prop where
  put : ∀ (m : M) (w : World), Calls Try.prog 11 #[.agg (mv m).toArray] w fun e w' => ∃ v, e = .returned (.tuple #[v, .int .i64 (codeM m)]) ∧ Own w' w.heap.size v (bytesM m) ∧ Below w.heap.size w w'
  take : ∀ (A : Option Addr) (n c : Nat) (l : List UInt8) (w : World), l.length = n → n ≤ c → n ≤ 1048576 → Seen w A l →
    Calls Try.prog 13 #[.slice A n c] w fun e w' => e = .returned (.tuple #[.agg (mv (gotM l)).toArray, .int .i64 (codeT l)]) ∧ Below w.heap.size w w'
  putReply : ∀ (r : R) (w : World), r.nonce.length = 8 → Calls Try.prog 15 #[.agg (rv r).toArray] w fun e w' => ∃ v, e = .returned (.tuple #[v, .int .i64 (codeR r)]) ∧ Own w' w.heap.size v (bytesR r) ∧ Below w.heap.size w w'
  takeReply : ∀ (A : Option Addr) (n c : Nat) (l : List UInt8) (w : World), l.length = n → n ≤ c → n ≤ 1048576 → Seen w A l →
    Calls Try.prog 17 #[.slice A n c] w fun e w' => e = .returned (.tuple #[.agg (rv (gotR l)).toArray, .int .i64 (codeTR l)]) ∧ Below w.heap.size w w'

/-- at a message that may be -/
theorem CodeOk.put_at (H : CodeOk) (m : M) (w : World) (h : okM m = true) : Calls Try.prog 11 #[.agg (mv m).toArray] w fun e w' => ∃ b c, e = .returned (.tuple #[.slice (some ⟨b, 0, none⟩) (msgB m).length c, .int .i64 0]) ∧ w.heap.size ≤ b ∧ Held w' b c (msgB m) ∧ Below w.heap.size w w' := by
  refine (H.put m w).mono ?_
  rintro e w' ⟨v, rfl, ho, hb⟩
  rw [(code_ok h).2] at ho
  rw [(code_ok h).1]
  have hl := (sizeM_le m.kind).2
  obtain ⟨b, c, rfl, hbb, hh⟩ := ho.held (by rw [msgB_len]; omega)
  exact ⟨b, c, rfl, hbb, hh, hb⟩
theorem CodeOk.putReply_at (H : CodeOk) (r : R) (w : World) (h : okR r = true) (h8 : r.nonce.length = 8) : Calls Try.prog 15 #[.agg (rv r).toArray] w fun e w' => ∃ b c, e = .returned (.tuple #[.slice (some ⟨b, 0, none⟩) (replyB r).length c, .int .i64 0]) ∧ w.heap.size ≤ b ∧ Held w' b c (replyB r) ∧ Below w.heap.size w w' := by
  refine (H.putReply r w h8).mono ?_
  rintro e w' ⟨v, rfl, ho, hb⟩
  rw [(codeR_ok h).2] at ho
  rw [(codeR_ok h).1]
  have hl := (sizeR_le r.kind).2
  obtain ⟨b, c, rfl, hbb, hh⟩ := ho.held (by rw [replyB_len h h8]; omega)
  exact ⟨b, c, rfl, hbb, hh, hb⟩
end Go.Proofs.Ytmibgmcgicphoaa.msg
