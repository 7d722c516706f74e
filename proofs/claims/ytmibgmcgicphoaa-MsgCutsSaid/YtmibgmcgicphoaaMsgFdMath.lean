/-
  PLAIN FACTS OF FIELDS: a message, or a reply, is a row of fields, each with what it puts and what it takes; what joining and splitting by them comes to. No program.
-/
import Derived.Test.YtmibgmcgicphoaaMsgMath
namespace Go.Proofs.Ytmibgmcgicphoaa.msg
open Go.Proofs.Ytmibgmcgicphoaa.octets Go.Proofs.Ytmibgmcgicphoaa.pack
set_option linter.unusedVariables false
set_option linter.unusedSimpArgs false

/-- a field: how many bytes, what it puts, and what it takes -/
structure FD (S : Type) where
  size : Nat
  put : S → List UInt8
  take : List UInt8 → S → Bool × S
/-- what is put of a number, as 64 bits without a sign -/
def low64 (n : Int) : Nat := (n % 18446744073709551616).toNat
def numB (k : Nat) (n : Int) : List UInt8 := if low64 n < 256 ^ k then octs k (low64 n) else []
def axisB (n : Int) : List UInt8 := if -32768 ≤ n ∧ n ≤ 32767 then octs 2 (sign n) else []
def numD {S : Type} (size : Nat) (low high : Int) (get : S → Int) (set : Int → S → S) : FD S :=
  ⟨size, fun s => numB size (get s), fun l s => (decide (low ≤ (num l : Int)) && decide ((num l : Int) ≤ high), set (num l) s)⟩
def flagD {S : Type} (get : S → Bool) (set : Bool → S → S) : FD S := ⟨1, fun s => [if get s then 1 else 0], fun l s => (decide ((l.getD 0 0).toNat ≤ 1), set ((l.getD 0 0).toNat == 1) s)⟩
def axisD {S : Type} (get : S → Int) (set : Int → S → S) : FD S := ⟨2, fun s => axisB (get s), fun l s => (true, set (signed (num l)) s)⟩
def nonceD {S : Type} (get : S → List UInt8) (set : List UInt8 → S → S) : FD S := ⟨8, get, fun l s => (true, set l s)⟩

def splitL {S : Type} : List (FD S) → List UInt8 → S → Option S
  | [], l, s => if l = [] then some s else none
  | d :: ds, l, s => if l.length < d.size then none else if (d.take (l.take d.size) s).1 then splitL ds (l.drop d.size) (d.take (l.take d.size) s).2 else none
def joinL {S : Type} (ds : List (FD S)) (s : S) : List UInt8 := (ds.map (·.put s)).flatten

theorem numB_ok {k : Nat} {n : Int} (h : 0 ≤ n ∧ n < ((256 ^ k : Nat) : Int)) (hk : k ≤ 4 := by decide) : numB k n = octs k n.toNat := by
  have h4 : 256 ^ k ≤ 256 ^ 4 := Nat.pow_le_pow_right (by decide) hk
  have h4' : (256 : Nat) ^ 4 = 4294967296 := by decide
  have e : low64 n = n.toNat := by unfold low64; omega
  rw [numB, e, if_pos (by omega)]
theorem numB_le (k : Nat) (n : Int) : (numB k n).length ≤ k := by
  unfold numB
  split
  · rw [octs_len]; exact Nat.le_refl _
  · exact Nat.zero_le _
theorem axisB_le (n : Int) : (axisB n).length ≤ 2 := by
  unfold axisB
  split
  · rw [octs_len]; exact Nat.le_refl _
  · exact Nat.zero_le _

/-- what was joined is split -/
theorem split_join {S : Type} (m : S) : ∀ (ds : List (FD S)) (s : S), (∀ d ∈ ds, ∀ s, (d.put m).length = d.size ∧ (d.take (d.put m) s).1 = true) → splitL ds (joinL ds m) s = some (ds.foldl (fun s d => (d.take (d.put m) s).2) s)
  | [], s, _ => rfl
  | d :: ds, s, h => by
    obtain ⟨h1, h2⟩ := h d (by simp) s
    have e : joinL (d :: ds) m = d.put m ++ joinL ds m := rfl
    rw [e, splitL, ← h1, List.take_left, List.drop_left, if_neg (by simp), if_pos h2, split_join m ds _ fun d' hd => h d' (by simp [hd])]
    rfl
theorem split_some {S : Type} {d : FD S} {ds : List (FD S)} {l : List UInt8} {s s' : S} (h : splitL (d :: ds) l s = some s') : ∃ b r, l = b ++ r ∧ b.length = d.size ∧ (d.take b s).1 = true ∧ splitL ds r (d.take b s).2 = some s' := by
  rw [splitL] at h
  split at h
  · cases h
  · split at h
    · rename_i h1 h2
      exact ⟨l.take d.size, l.drop d.size, (List.take_append_drop _ _).symm, by simp; omega, h2, h⟩
    · cases h
theorem split_end {S : Type} {l : List UInt8} {s s' : S} (h : splitL [] l s = some s') : l = [] ∧ s' = s := by
  rw [splitL] at h
  split at h
  · rename_i h1
    exact ⟨h1, (Option.some.inj h).symm⟩
  · cases h

/-- the first byte, 0 of none -/
def firstL (l : List UInt8) : Int := atB l 0
theorem octs1 (n : Nat) : octs 1 n = [UInt8.ofNat n] := by simp [octs]
theorem one_octs (n : Int) : [u1 n] = octs 1 n.toNat := by rw [octs1]; rfl
theorem num_one (a : UInt8) : num [a] = a.toNat := by simp [num]
theorem num_back_one {b : List UInt8} (h : b.length = 1) : num b = (b.getD 0 0).toNat := by
  match b, h with
  | [a], _ => simp [num]

def fKind : FD M := numD 1 0 255 (·.kind) fun n s => { s with kind := n }
def fSeq : FD M := numD 4 0 4294967295 (·.seq) fun n s => { s with seq := n }
def fRole : FD M := numD 1 0 3 (·.role) fun n s => { s with role := n }
def fTo : FD M := numD 1 0 4 (·.to_) fun n s => { s with to_ := n }
def fEpoch : FD M := numD 2 0 65535 (·.epoch) fun n s => { s with epoch := n }
def fMode : FD M := numD 1 0 4 (·.mode) fun n s => { s with mode := n }
def fCls : FD M := numD 1 1 3 (·.cls) fun n s => { s with cls := n }
def fNow : FD M := flagD (·.now) fun n s => { s with now := n }
def fX0 : FD M := axisD (·.x0) fun n s => { s with x0 := n }
def fX1 : FD M := axisD (·.x1) fun n s => { s with x1 := n }
def fX2 : FD M := axisD (·.x2) fun n s => { s with x2 := n }
def fX3 : FD M := axisD (·.x3) fun n s => { s with x3 := n }
/-- the fields of a message, by its kind -/
def fdM (k : Int) : List (FD M) :=
  if k = 1 ∨ k = 2 then [fKind, fRole] else if k = 3 ∨ k = 4 ∨ k = 8 ∨ k = 9 then [fKind, fSeq] else if k = 5 then [fKind, fSeq, fNow] else if k = 6 then [fKind, fSeq, fTo] else if k = 7 then [fKind, fSeq, fEpoch]
  else if k = 10 then [fKind, fSeq, fEpoch, fMode] else if k = 11 then [fKind, fSeq, fEpoch, fCls] ++ [fX0, fX1, fX2, fX3] else []
theorem kinds_M {k : Int} (h : 1 ≤ k ∧ k ≤ 11) : k = 1 ∨ k = 2 ∨ k = 3 ∨ k = 4 ∨ k = 5 ∨ k = 6 ∨ k = 7 ∨ k = 8 ∨ k = 9 ∨ k = 10 ∨ k = 11 := by omega
theorem fdM_none {k : Int} (h : fdM k ≠ []) : 1 ≤ k ∧ k ≤ 11 := by
  unfold fdM at h
  by_cases h1 : k = 1 ∨ k = 2
  · omega
  by_cases h2 : k = 3 ∨ k = 4 ∨ k = 8 ∨ k = 9
  · omega
  by_cases h5 : k = 5
  · omega
  by_cases h6 : k = 6
  · omega
  by_cases h7 : k = 7
  · omega
  by_cases h10 : k = 10
  · omega
  by_cases h11 : k = 11
  · omega
  · simp [h1, h2, h5, h6, h7, h10, h11] at h

set_option maxHeartbeats 2000000 in
/-- a message's bytes are its fields', one behind the other -/
theorem join_msg {m : M} (h : okM m = true) : joinL (fdM m.kind) m = msgB m := by
  obtain ⟨hn, hk, hs, he, hr, ht, hmo, hc, h0, h1, h2, h3⟩ := okM_parts h
  have nk : numB 1 m.kind = [u1 m.kind] := by rw [one_octs]; exact numB_ok (by omega)
  have ns : numB 4 m.seq = octs 4 m.seq.toNat := numB_ok (by omega)
  have nr : numB 1 m.role = [u1 m.role] := by rw [one_octs]; exact numB_ok (by omega)
  have nt : numB 1 m.to_ = [u1 m.to_] := by rw [one_octs]; exact numB_ok (by omega)
  have ne : numB 2 m.epoch = octs 2 m.epoch.toNat := numB_ok (by omega)
  have nm : numB 1 m.mode = [u1 m.mode] := by rw [one_octs]; exact numB_ok (by omega)
  have nc : numB 1 m.cls = [u1 m.cls] := by rw [one_octs]; exact numB_ok (by omega)
  have n0 : axisB m.x0 = octs 2 (sign m.x0) := if_pos h0
  have n1 : axisB m.x1 = octs 2 (sign m.x1) := if_pos h1
  have n2 : axisB m.x2 = octs 2 (sign m.x2) := if_pos h2
  have n3 : axisB m.x3 = octs 2 (sign m.x3) := if_pos h3
  rcases kinds_M hk with e | e | e | e | e | e | e | e | e | e | e
  all_goals
    rw [msgB]
    simp [fdM, joinL, numD, axisD, flagD, fKind, fSeq, fRole, fTo, fEpoch, fMode, fCls, fNow, fX0, fX1, fX2, fX3, nk, ns, nr, nt, ne, nm, nc, n0, n1, n2, n3, e]
    try (rw [e] at nk; simp [nk])
/-- a field of a message that may be is taken as it was put -/
def backD {S : Type} (m : S) (d : FD S) : Prop := ∀ s, (d.put m).length = d.size ∧ (d.take (d.put m) s).1 = true
theorem num_backD {S : Type} {m : S} {k : Nat} {low high : Int} {get : S → Int} {set : Int → S → S} (h0 : 0 ≤ low) (h1 : low ≤ get m) (h2 : get m ≤ high) (h3 : high < ((256 ^ k : Nat) : Int)) (hk : k ≤ 4 := by decide) : backD m (numD k low high get set) := fun s => by
  have e : numB k (get m) = octs k (get m).toNat := numB_ok ⟨by omega, by omega⟩ hk
  have hb : num (octs k (get m).toNat) = (get m).toNat := num_back (by omega)
  refine ⟨?_, ?_⟩
  · show (numB k (get m)).length = k
    rw [e, octs_len]
  · show (decide (low ≤ (num (numB k (get m)) : Int)) && decide ((num (numB k (get m)) : Int) ≤ high)) = true
    rw [e, hb, Bool.and_eq_true, decide_eq_true_eq, decide_eq_true_eq]
    omega
theorem num_copy {S : Type} {m s : S} {k : Nat} {low high : Int} {get : S → Int} {set : Int → S → S} (h1 : 0 ≤ get m) (h2 : get m < ((256 ^ k : Nat) : Int)) (hk : k ≤ 4 := by decide) : ((numD k low high get set).take ((numD k low high get set).put m) s).2 = set (get m) s := by
  show set (num (numB k (get m)) : Int) s = _
  rw [numB_ok ⟨h1, h2⟩ hk, num_back (by omega)]
  congr 1
  omega
theorem axis_backD {S : Type} {m : S} {get : S → Int} {set : Int → S → S} (h1 : -32768 ≤ get m) (h2 : get m ≤ 32767) : backD m (axisD get set) := fun s => by
  refine ⟨?_, rfl⟩
  show (axisB (get m)).length = 2
  rw [axisB, if_pos ⟨h1, h2⟩, octs_len]
theorem axis_copy {S : Type} {m s : S} {get : S → Int} {set : Int → S → S} (h1 : -32768 ≤ get m) (h2 : get m ≤ 32767) : ((axisD get set).take ((axisD get set).put m) s).2 = set (get m) s := by
  show set (signed (num (axisB (get m)))) s = _
  have := sign_lt (get m)
  rw [axisB, if_pos ⟨h1, h2⟩, num_back (k := 2) (by omega), signed_sign h1 h2]
theorem flag_backD {S : Type} {m : S} {get : S → Bool} {set : Bool → S → S} : backD m (flagD get set) := fun s => by
  refine ⟨rfl, ?_⟩
  show decide ((((if get m then 1 else 0 : UInt8) :: []).getD 0 0).toNat ≤ 1) = true
  cases get m <;> rfl
theorem flag_copy {S : Type} {m s : S} {get : S → Bool} {set : Bool → S → S} : ((flagD get set).take ((flagD get set).put m) s).2 = set (get m) s := by
  show set ((((if get m then 1 else 0 : UInt8) :: []).getD 0 0).toNat == 1) s = _
  cases get m <;> rfl

set_option maxHeartbeats 2000000 in
theorem split_msg {m : M} (h : okM m = true) : fdM m.kind ≠ [] ∧ splitL (fdM m.kind) (msgB m) { zM with kind := m.kind } = some m := by
  obtain ⟨hn, hk, hs, he, hr, ht, hmo, hc, h0, h1, h2, h3⟩ := okM_parts h
  have hcl : m.kind = 11 → 1 ≤ m.cls := fun e => by
    unfold okM fitsM at h
    simp only [Bool.and_eq_true, inI_iff, decide_eq_true_eq, e] at h
    have := h.1.2.2.1
    simpa using this
  have b1 : backD m fKind := num_backD (by omega) (by omega) (by omega) (by decide)
  have b2 : backD m fSeq := num_backD (by omega) (by omega) (by omega) (by decide)
  have b3 : backD m fRole := num_backD (by omega) (by omega) (by omega) (by decide)
  have b4 : backD m fTo := num_backD (by omega) (by omega) (by omega) (by decide)
  have b5 : backD m fEpoch := num_backD (by omega) (by omega) (by omega) (by decide)
  have b6 : backD m fMode := num_backD (by omega) (by omega) (by omega) (by decide)
  have b7 : m.kind = 11 → backD m fCls := fun e => num_backD (by omega) (hcl e) (by omega) (by decide)
  have b8 : backD m fNow := flag_backD
  have b9 : backD m fX0 := axis_backD h0.1 h0.2
  have b10 : backD m fX1 := axis_backD h1.1 h1.2
  have b11 : backD m fX2 := axis_backD h2.1 h2.2
  have b12 : backD m fX3 := axis_backD h3.1 h3.2
  have c1 : ∀ s : M, (fKind.take (fKind.put m) s).2 = { s with kind := m.kind } := fun s => num_copy (by show 0 ≤ m.kind; omega) (by show m.kind < _; omega)
  have c2 : ∀ s : M, (fSeq.take (fSeq.put m) s).2 = { s with seq := m.seq } := fun s => num_copy (by show 0 ≤ m.seq; omega) (by show m.seq < _; omega)
  have c3 : ∀ s : M, (fRole.take (fRole.put m) s).2 = { s with role := m.role } := fun s => num_copy (by show 0 ≤ m.role; omega) (by show m.role < _; omega)
  have c4 : ∀ s : M, (fTo.take (fTo.put m) s).2 = { s with to_ := m.to_ } := fun s => num_copy (by show 0 ≤ m.to_; omega) (by show m.to_ < _; omega)
  have c5 : ∀ s : M, (fEpoch.take (fEpoch.put m) s).2 = { s with epoch := m.epoch } := fun s => num_copy (by show 0 ≤ m.epoch; omega) (by show m.epoch < _; omega)
  have c6 : ∀ s : M, (fMode.take (fMode.put m) s).2 = { s with mode := m.mode } := fun s => num_copy (by show 0 ≤ m.mode; omega) (by show m.mode < _; omega)
  have c7 : ∀ s : M, (fCls.take (fCls.put m) s).2 = { s with cls := m.cls } := fun s => num_copy (by show 0 ≤ m.cls; omega) (by show m.cls < _; omega)
  have c8 : ∀ s : M, (fNow.take (fNow.put m) s).2 = { s with now := m.now } := fun s => flag_copy
  have c9 : ∀ s : M, (fX0.take (fX0.put m) s).2 = { s with x0 := m.x0 } := fun s => axis_copy h0.1 h0.2
  have c10 : ∀ s : M, (fX1.take (fX1.put m) s).2 = { s with x1 := m.x1 } := fun s => axis_copy h1.1 h1.2
  have c11 : ∀ s : M, (fX2.take (fX2.put m) s).2 = { s with x2 := m.x2 } := fun s => axis_copy h2.1 h2.2
  have c12 : ∀ s : M, (fX3.take (fX3.put m) s).2 = { s with x3 := m.x3 } := fun s => axis_copy h3.1 h3.2
  rw [← join_msg h]
  obtain ⟨kind, seq, role, to_, epoch, mode, cls, now, x0, x1, x2, x3⟩ := m
  simp only at *
  rcases kinds_M hk with rfl | rfl | rfl | rfl | rfl | rfl | rfl | rfl | rfl | rfl | rfl
  all_goals
    replace hn := hn.symm
    simp [namedM, zM] at hn
    refine ⟨by simp [fdM], ?_⟩
    simp only [fdM, reduceCtorEq, false_or, or_false, if_true, if_false, true_or, or_true, ite_true, ite_false, Int.reduceEq, List.cons_append, List.nil_append]
    rw [split_join _ _ _ (by
      intro d hd
      simp only [List.mem_cons, List.not_mem_nil, or_false] at hd
      first
        | (rcases hd with rfl | rfl <;> assumption)
        | (rcases hd with rfl | rfl | rfl <;> assumption)
        | (rcases hd with rfl | rfl | rfl | rfl <;> assumption)
        | (rcases hd with rfl | rfl | rfl | rfl | rfl | rfl | rfl | rfl <;> first | assumption | exact b7 rfl))]
    simp only [List.foldl_cons, List.foldl_nil, c1, c2, c3, c4, c5, c6, c7, c8, c9, c10, c11, c12]
    simp [zM, hn]

theorem numB_num {k : Nat} {b : List UInt8} (h : b.length = k) (hk : k ≤ 4 := by decide) : numB k (num b : Int) = b := by
  have := num_lt b
  rw [h] at this
  rw [numB_ok ⟨by omega, by omega⟩ hk, Int.toNat_natCast]
  subst h
  exact octs_num b
theorem sign_signed {n : Nat} (h : n < 65536) : sign (signed n) = n ∧ -32768 ≤ signed n ∧ signed n ≤ 32767 := by
  unfold sign signed
  split <;> omega
theorem axisB_num {b : List UInt8} (h : b.length = 2) : axisB (signed (num b)) = b := by
  have := num_lt b
  rw [h] at this
  have hs := sign_signed this
  rw [axisB, if_pos hs.2, hs.1]
  have := octs_num b
  rw [h] at this
  exact this
theorem flagB_back {b : List UInt8} (h : b.length = 1) (h1 : decide ((b.getD 0 0).toNat ≤ 1) = true) : [if ((b.getD 0 0).toNat == 1) then (1 : UInt8) else 0] = b := by
  match b, h with
  | [a], _ =>
    simp at h1 ⊢
    have : a.toNat = 0 ∨ a.toNat = 1 := by omega
    rcases this with e | e
    · rw [if_neg (by omega)]
      exact (UInt8.toNat_inj.1 (by rw [e]; rfl)).symm
    · rw [if_pos e]
      exact (UInt8.toNat_inj.1 (by rw [e]; rfl)).symm

theorem num_in {S : Type} {k : Nat} {low high : Int} {get : S → Int} {set : Int → S → S} {b : List UInt8} {s : S} (h : ((numD k low high get set).take b s).1 = true) : low ≤ (num b : Int) ∧ (num b : Int) ≤ high := by
  have h : (decide (low ≤ (num b : Int)) && decide ((num b : Int) ≤ high)) = true := h
  simpa using h
theorem first_app {b r : List UInt8} (h : b.length = 1) : firstL (b ++ r) = (num b : Int) := by
  match b, h with
  | [a], _ => simp [firstL, atB, num]
theorem zM_ok (k : Int) : ({ zM with kind := k } : M) = ⟨k, 0, 0, 0, 0, 0, 0, false, 0, 0, 0, 0⟩ := rfl

theorem took {l : List UInt8} {m : M} (h : okM m = true) (e : joinL (fdM m.kind) m = l) : takeM l = some m := by rw [← e, join_msg h]; exact take_msg h
set_option maxHeartbeats 4000000 in
theorem split_take {l : List UInt8} {m : M} (h0 : fdM (firstL l) ≠ []) (h : splitL (fdM (firstL l)) l { zM with kind := firstL l } = some m) : takeM l = some m := by
  have hk := fdM_none h0
  obtain ⟨k, hf⟩ : ∃ k, firstL l = k := ⟨_, rfl⟩
  rw [hf] at h hk h0
  rcases kinds_M hk with rfl | rfl | rfl | rfl | rfl | rfl | rfl | rfl | rfl | rfl | rfl
  all_goals
    clear h0 hk
    simp only [fdM, reduceCtorEq, false_or, or_false, if_true, if_false, true_or, or_true, ite_true, ite_false, Int.reduceEq, List.cons_append, List.nil_append] at h
    obtain ⟨b1, r, rfl, l1, t1, h⟩ := split_some h
    replace l1 : b1.length = 1 := l1
    rw [first_app l1] at hf
    obtain ⟨b2, r, rfl, l2, t2, h⟩ := split_some h
    have q1 := numB_num l1
    rw [hf] at q1
    have g2 := num_in t2
  all_goals try (obtain ⟨b3, r, rfl, l3, t3, h⟩ := split_some h)
  all_goals try (obtain ⟨b4, r, rfl, l4, t4, h⟩ := split_some h)
  all_goals try (obtain ⟨b5, r, rfl, l5, t5, h⟩ := split_some h)
  all_goals try (obtain ⟨b6, r, rfl, l6, t6, h⟩ := split_some h)
  all_goals try (obtain ⟨b7, r, rfl, l7, t7, h⟩ := split_some h)
  all_goals try (obtain ⟨b8, r, rfl, l8, t8, h⟩ := split_some h)
  all_goals
    obtain ⟨hr, hm⟩ := split_end h
    subst hr
    clear h t1
    simp only [fKind, fSeq, fRole, fTo, fEpoch, fMode, fCls, fNow, fX0, fX1, fX2, fX3, numD, axisD, flagD, zM, hf] at hm l2 t2 g2
    subst hm
  all_goals try (simp only [fKind, fSeq, fRole, fTo, fEpoch, fMode, fCls, fNow, fX0, fX1, fX2, fX3, numD, axisD, flagD, Bool.and_eq_true, decide_eq_true_eq] at l3 t3)
  all_goals try (simp only [fKind, fSeq, fRole, fTo, fEpoch, fMode, fCls, fNow, fX0, fX1, fX2, fX3, numD, axisD, flagD, Bool.and_eq_true, decide_eq_true_eq] at l4 t4)
  all_goals try (simp only [fKind, fSeq, fRole, fTo, fEpoch, fMode, fCls, fNow, fX0, fX1, fX2, fX3, numD, axisD, flagD] at l5 l6 l7 l8)
  all_goals try (have s5 := sign_signed (n := num b5) (by have := num_lt b5; rw [l5] at this; omega); have s6 := sign_signed (n := num b6) (by have := num_lt b6; rw [l6] at this; omega); have s7 := sign_signed (n := num b7) (by have := num_lt b7; rw [l7] at this; omega); have s8 := sign_signed (n := num b8) (by have := num_lt b8; rw [l8] at this; omega))
  all_goals
    refine took ?_ ?_
    · simp [okM, fitsM, namedM, inI, zM]
      try omega
    · first
        | (simp [fdM, joinL, fKind, fSeq, fRole, fTo, fEpoch, fMode, fCls, fNow, fX0, fX1, fX2, fX3, numD, axisD, flagD, numB_num l2, numB_num l3, numB_num l4, axisB_num l5, axisB_num l6, axisB_num l7, axisB_num l8, q1]; done)
        | (simp [fdM, joinL, fKind, fSeq, fRole, fTo, fEpoch, fMode, fCls, fNow, fX0, fX1, fX2, fX3, numD, axisD, flagD, numB_num l2, numB_num l3, numB_num l4, q1]; done)
        | (simp [fdM, joinL, fKind, fSeq, fRole, fTo, fEpoch, fMode, fCls, fNow, fX0, fX1, fX2, fX3, numD, axisD, flagD, numB_num l2, numB_num l3, q1]; done)
        | (have f3 := flagB_back l3 (decide_eq_true t3); simp [fdM, joinL, fKind, fSeq, fRole, fTo, fEpoch, fMode, fCls, fNow, fX0, fX1, fX2, fX3, numD, axisD, flagD, numB_num l2, q1] at f3 ⊢; exact f3)
        | (simp [fdM, joinL, fKind, fSeq, fRole, fTo, fEpoch, fMode, fCls, fNow, fX0, fX1, fX2, fX3, numD, axisD, flagD, numB_num l2, q1]; done)
/-- what bytes say, by the fields of their first one's kind -/
theorem take_fields (l : List UInt8) : takeM l = if fdM (firstL l) = [] then none else splitL (fdM (firstL l)) l { zM with kind := firstL l } := by
  have back : ∀ m, takeM l = some m → fdM (firstL l) ≠ [] ∧ splitL (fdM (firstL l)) l { zM with kind := firstL l } = some m := fun m h => by
    obtain ⟨hm, rfl⟩ := take_is h
    have e : firstL (msgB m) = m.kind := u1_back (by have := (okM_parts hm).2.1; omega) (by have := (okM_parts hm).2.1; omega)
    rw [e]
    exact split_msg hm
  by_cases h0 : fdM (firstL l) = []
  · rw [if_pos h0]
    cases h : takeM l with
    | none => rfl
    | some m => exact absurd h0 (back m h).1
  · rw [if_neg h0]
    cases h : splitL (fdM (firstL l)) l { zM with kind := firstL l } with
    | some m => exact split_take h0 h
    | none =>
      cases h' : takeM l with
      | none => rfl
      | some m => rw [(back m h').2] at h; cases h
end Go.Proofs.Ytmibgmcgicphoaa.msg
