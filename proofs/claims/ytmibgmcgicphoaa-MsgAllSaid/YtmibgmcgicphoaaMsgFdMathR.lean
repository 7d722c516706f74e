/-
  PLAIN FACTS OF THE FIELDS OF REPLIES. No program.
-/
import Derived.Test.YtmibgmcgicphoaaMsgFdMath
namespace Go.Proofs.Ytmibgmcgicphoaa.msg
open Go.Proofs.Ytmibgmcgicphoaa.octets Go.Proofs.Ytmibgmcgicphoaa.pack
set_option linter.unusedVariables false
set_option linter.unusedSimpArgs false

def gKind : FD R := numD 1 0 255 (·.kind) fun n s => { s with kind := n }
def gSeq : FD R := numD 4 0 4294967295 (·.seq) fun n s => { s with seq := n }
def gRole : FD R := numD 1 0 3 (·.role) fun n s => { s with role := n }
def gWho : FD R := numD 1 0 4 (·.who) fun n s => { s with who := n }
def gEpoch : FD R := numD 2 0 65535 (·.epoch) fun n s => { s with epoch := n }
def gCode : FD R := numD 1 0 255 (·.code) fun n s => { s with code := n }
def gNonce : FD R := nonceD (·.nonce) fun n s => { s with nonce := n }
/-- the fields of a reply, by its kind -/
def fdR (k : Int) : List (FD R) :=
  if k = 129 then [gKind, gNonce] else if k = 130 then [gKind, gRole, gWho, gEpoch] else if k = 131 then [gKind, gSeq] else if k = 132 then [gKind, gSeq, gCode] else if k = 133 then [gKind, gEpoch]
  else if k = 134 ∨ k = 135 then [gKind, gWho, gEpoch] else if k = 136 then [gKind, gWho, gCode] else []
theorem fdR_none {k : Int} (h : fdR k ≠ []) : 129 ≤ k ∧ k ≤ 136 := by
  unfold fdR at h
  by_cases h1 : k = 129
  · omega
  by_cases h2 : k = 130
  · omega
  by_cases h3 : k = 131
  · omega
  by_cases h4 : k = 132
  · omega
  by_cases h5 : k = 133
  · omega
  by_cases h6 : k = 134 ∨ k = 135
  · omega
  by_cases h7 : k = 136
  · omega
  · simp [h1, h2, h3, h4, h5, h6, h7] at h

set_option maxHeartbeats 2000000 in
theorem join_reply {r : R} (h : okR r = true) : joinL (fdR r.kind) r = replyB r := by
  obtain ⟨hn, hk, hs, hr, hw, he, hc⟩ := okR_parts h
  have nk : numB 1 r.kind = [u1 r.kind] := by rw [one_octs]; exact numB_ok (by omega)
  have ns : numB 4 r.seq = octs 4 r.seq.toNat := numB_ok (by omega)
  have nr : numB 1 r.role = [u1 r.role] := by rw [one_octs]; exact numB_ok (by omega)
  have nw : numB 1 r.who = [u1 r.who] := by rw [one_octs]; exact numB_ok (by omega)
  have ne : numB 2 r.epoch = octs 2 r.epoch.toNat := numB_ok (by omega)
  have nc : numB 1 r.code = [u1 r.code] := by rw [one_octs]; exact numB_ok (by omega)
  rcases kinds_R hk with e | e | e | e | e | e | e | e
  all_goals
    rw [replyB]
    simp [fdR, joinL, numD, nonceD, gKind, gSeq, gRole, gWho, gEpoch, gCode, gNonce, nk, ns, nr, nw, ne, nc, e]
    try (rw [e] at nk; simp [nk])

set_option maxHeartbeats 2000000 in
theorem split_reply {r : R} (h : okR r = true) (h8 : r.nonce.length = 8) : fdR r.kind ≠ [] ∧ splitL (fdR r.kind) (replyB r) { zR with kind := r.kind } = some r := by
  obtain ⟨hn, hk, hs, hr, hw, he, hc⟩ := okR_parts h
  have b1 : backD r gKind := num_backD (by omega) (by omega) (by omega) (by decide)
  have b2 : backD r gSeq := num_backD (by omega) (by omega) (by omega) (by decide)
  have b3 : backD r gRole := num_backD (by omega) (by omega) (by omega) (by decide)
  have b4 : backD r gWho := num_backD (by omega) (by omega) (by omega) (by decide)
  have b5 : backD r gEpoch := num_backD (by omega) (by omega) (by omega) (by decide)
  have b6 : backD r gCode := num_backD (by omega) (by omega) (by omega) (by decide)
  have b7 : backD r gNonce := fun s => ⟨h8, rfl⟩
  have c1 : ∀ s : R, (gKind.take (gKind.put r) s).2 = { s with kind := r.kind } := fun s => num_copy (by show 0 ≤ r.kind; omega) (by show r.kind < _; omega)
  have c2 : ∀ s : R, (gSeq.take (gSeq.put r) s).2 = { s with seq := r.seq } := fun s => num_copy (by show 0 ≤ r.seq; omega) (by show r.seq < _; omega)
  have c3 : ∀ s : R, (gRole.take (gRole.put r) s).2 = { s with role := r.role } := fun s => num_copy (by show 0 ≤ r.role; omega) (by show r.role < _; omega)
  have c4 : ∀ s : R, (gWho.take (gWho.put r) s).2 = { s with who := r.who } := fun s => num_copy (by show 0 ≤ r.who; omega) (by show r.who < _; omega)
  have c5 : ∀ s : R, (gEpoch.take (gEpoch.put r) s).2 = { s with epoch := r.epoch } := fun s => num_copy (by show 0 ≤ r.epoch; omega) (by show r.epoch < _; omega)
  have c6 : ∀ s : R, (gCode.take (gCode.put r) s).2 = { s with code := r.code } := fun s => num_copy (by show 0 ≤ r.code; omega) (by show r.code < _; omega)
  have c7 : ∀ s : R, (gNonce.take (gNonce.put r) s).2 = { s with nonce := r.nonce } := fun s => rfl
  rw [← join_reply h]
  obtain ⟨kind, seq, role, who, epoch, code, nonce⟩ := r
  simp only at *
  rcases kinds_R hk with rfl | rfl | rfl | rfl | rfl | rfl | rfl | rfl
  all_goals
    replace hn := hn.symm
    simp [namedR, zR] at hn
    refine ⟨by simp [fdR], ?_⟩
    simp only [fdR, reduceCtorEq, false_or, or_false, if_true, if_false, true_or, or_true, ite_true, ite_false, Int.reduceEq]
    rw [split_join _ _ _ (by
      intro d hd
      simp only [List.mem_cons, List.not_mem_nil, or_false] at hd
      first
        | (rcases hd with rfl | rfl <;> assumption)
        | (rcases hd with rfl | rfl | rfl <;> assumption)
        | (rcases hd with rfl | rfl | rfl | rfl <;> assumption))]
    simp only [List.foldl_cons, List.foldl_nil, c1, c2, c3, c4, c5, c6, c7]
    simp [zR, hn]

theorem tookR {l : List UInt8} {r : R} (h : okR r = true) (h8 : r.nonce.length = 8) (e : joinL (fdR r.kind) r = l) : takeR l = some r := by rw [← e, join_reply h]; exact take_reply h h8
set_option maxHeartbeats 4000000 in
theorem split_takeR {l : List UInt8} {r : R} (h0 : fdR (firstL l) ≠ []) (h : splitL (fdR (firstL l)) l { zR with kind := firstL l } = some r) : takeR l = some r := by
  have hk := fdR_none h0
  obtain ⟨k, hf⟩ : ∃ k, firstL l = k := ⟨_, rfl⟩
  rw [hf] at h hk h0
  have z8l : z8.length = 8 := rfl
  rcases kinds_R hk with rfl | rfl | rfl | rfl | rfl | rfl | rfl | rfl
  all_goals
    clear h0 hk
    simp only [fdR, reduceCtorEq, false_or, or_false, if_true, if_false, true_or, or_true, ite_true, ite_false, Int.reduceEq] at h
    obtain ⟨b1, t, rfl, l1, t1, h⟩ := split_some h
    replace l1 : b1.length = 1 := l1
    rw [first_app l1] at hf
    obtain ⟨b2, t, rfl, l2, t2, h⟩ := split_some h
    have q1 := numB_num l1
    rw [hf] at q1
  all_goals try (obtain ⟨b3, t, rfl, l3, t3, h⟩ := split_some h)
  all_goals try (obtain ⟨b4, t, rfl, l4, t4, h⟩ := split_some h)
  all_goals
    obtain ⟨hr, hm⟩ := split_end h
    subst hr
    clear h t1
    simp only [gKind, gSeq, gRole, gWho, gEpoch, gCode, gNonce, numD, nonceD, zR, hf, Bool.and_eq_true, decide_eq_true_eq] at hm l2 t2
    subst hm
  all_goals try (simp only [gKind, gSeq, gRole, gWho, gEpoch, gCode, gNonce, numD, nonceD, Bool.and_eq_true, decide_eq_true_eq] at l3 t3)
  all_goals try (simp only [gKind, gSeq, gRole, gWho, gEpoch, gCode, gNonce, numD, nonceD, Bool.and_eq_true, decide_eq_true_eq] at l4 t4)
  all_goals
    refine tookR ?_ ?_ ?_
    · simp [okR, fitsR, namedR, inI, zR]
      try omega
    · first | exact l2 | exact z8l
    · first
        | (simp [fdR, joinL, gKind, gSeq, gRole, gWho, gEpoch, gCode, gNonce, numD, nonceD, numB_num l2, numB_num l3, numB_num l4, q1]; done)
        | (simp [fdR, joinL, gKind, gSeq, gRole, gWho, gEpoch, gCode, gNonce, numD, nonceD, numB_num l2, numB_num l3, q1]; done)
        | (simp [fdR, joinL, gKind, gSeq, gRole, gWho, gEpoch, gCode, gNonce, numD, nonceD, numB_num l2, q1]; done)
        | (simp [fdR, joinL, gKind, gSeq, gRole, gWho, gEpoch, gCode, gNonce, numD, nonceD, q1]; done)
theorem takeR_fields (l : List UInt8) : takeR l = if fdR (firstL l) = [] then none else splitL (fdR (firstL l)) l { zR with kind := firstL l } := by
  have back : ∀ m, takeR l = some m → fdR (firstL l) ≠ [] ∧ splitL (fdR (firstL l)) l { zR with kind := firstL l } = some m := fun m h => by
    obtain ⟨hm, rfl, h8⟩ := takeR_is h
    have e : firstL (replyB m) = m.kind := u1_back (by have := (okR_parts hm).2.1; omega) (by have := (okR_parts hm).2.1; omega)
    rw [e]
    exact split_reply hm h8
  by_cases h0 : fdR (firstL l) = []
  · rw [if_pos h0]
    cases h : takeR l with
    | none => rfl
    | some m => exact absurd h0 (back m h).1
  · rw [if_neg h0]
    cases h : splitL (fdR (firstL l)) l { zR with kind := firstL l } with
    | some m => exact split_takeR h0 h
    | none =>
      cases h' : takeR l with
      | none => rfl
      | some m => rw [(back m h').2] at h; cases h
/-- what is joined is short -/
theorem joinL_le {S : Type} (m : S) (ds : List (FD S)) (k : Nat) (h : ∀ d ∈ ds, (d.put m).length ≤ k) : (joinL ds m).length ≤ ds.length * k := by
  induction ds with
  | nil => simp [joinL]
  | cons d ds ih =>
    have e : joinL (d :: ds) m = d.put m ++ joinL ds m := rfl
    have h1 := h d (by simp)
    have h2 := ih fun d' hd => h d' (by simp [hd])
    rw [e, List.length_append, List.length_cons, Nat.succ_mul]
    omega
end Go.Proofs.Ytmibgmcgicphoaa.msg
