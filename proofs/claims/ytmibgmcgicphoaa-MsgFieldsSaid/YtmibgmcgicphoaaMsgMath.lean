/-
  PLAIN FACTS OF MESSAGES AND REPLIES, as lists of bytes: which may be, which bytes they are, that bytes say one only. No program.
-/
import Derived.Test.YtmibgmcgicphoaaPackMath
namespace Go.Proofs.Ytmibgmcgicphoaa.msg
open Go.Proofs.Ytmibgmcgicphoaa.octets Go.Proofs.Ytmibgmcgicphoaa.pack
set_option linter.unusedVariables false
set_option linter.unusedSimpArgs false

/-- a message -/
structure M where
  kind : Int
  seq : Int
  role : Int
  to_ : Int
  epoch : Int
  mode : Int
  cls : Int
  now : Bool
  x0 : Int
  x1 : Int
  x2 : Int
  x3 : Int
  deriving DecidableEq
def zM : M := ⟨0, 0, 0, 0, 0, 0, 0, false, 0, 0, 0, 0⟩
/-- with just the fields that its kind names -/
def namedM (m : M) : M :=
  if m.kind = 1 ∨ m.kind = 2 then { zM with kind := m.kind, role := m.role }
  else if m.kind = 5 then { zM with kind := m.kind, seq := m.seq, now := m.now }
  else if m.kind = 6 then { zM with kind := m.kind, seq := m.seq, to_ := m.to_ }
  else if m.kind = 7 then { zM with kind := m.kind, seq := m.seq, epoch := m.epoch }
  else if m.kind = 10 then { zM with kind := m.kind, seq := m.seq, epoch := m.epoch, mode := m.mode }
  else if m.kind = 11 then { zM with kind := m.kind, seq := m.seq, epoch := m.epoch, cls := m.cls, x0 := m.x0, x1 := m.x1, x2 := m.x2, x3 := m.x3 }
  else { zM with kind := m.kind, seq := m.seq }
def inI (n low high : Int) : Bool := decide (low ≤ n) && decide (n ≤ high)
def fitsM (m : M) : Bool :=
  (inI m.x0 (-32768) 32767 && inI m.x1 (-32768) 32767 && inI m.x2 (-32768) 32767 && inI m.x3 (-32768) 32767) &&
  (inI m.kind 1 11 && inI m.seq 0 4294967295 && inI m.epoch 0 65535 && inI m.role 0 3 && inI m.to_ 0 4 && inI m.mode 0 4 && inI m.cls (if m.kind = 11 then 1 else 0) 3)
/-- it may be -/
def okM (m : M) : Bool := fitsM m && decide (namedM m = m)
def u1 (n : Int) : UInt8 := UInt8.ofNat n.toNat
def msgB (m : M) : List UInt8 :=
  u1 m.kind :: (if m.kind = 1 ∨ m.kind = 2 then [u1 m.role] else octs 4 m.seq.toNat ++
    (if m.kind = 5 then [if m.now then 1 else 0] else if m.kind = 6 then [u1 m.to_] else if m.kind = 7 then octs 2 m.epoch.toNat else if m.kind = 10 then octs 2 m.epoch.toNat ++ [u1 m.mode]
      else if m.kind = 11 then octs 2 m.epoch.toNat ++ [u1 m.cls] ++ octs 2 (sign m.x0) ++ octs 2 (sign m.x1) ++ octs 2 (sign m.x2) ++ octs 2 (sign m.x3) else []))
/-- a byte, 0 where there is none -/
def atB (l : List UInt8) (i : Nat) : Int := ((l.getD i 0).toNat : Int)
def two (l : List UInt8) (i : Nat) : Int := signed (256 * (l.getD i 0).toNat + (l.getD (i + 1) 0).toNat)
def decM (l : List UInt8) : M :=
  namedM ⟨atB l 0, 16777216 * atB l 1 + 65536 * atB l 2 + 256 * atB l 3 + atB l 4, if atB l 0 = 1 ∨ atB l 0 = 2 then atB l 1 else 0, atB l 5, 256 * atB l 5 + atB l 6, atB l 7, atB l 7, atB l 5 == 1, two l 8, two l 10, two l 12, two l 14⟩
def sizeM (k : Int) : Nat := if k = 1 ∨ k = 2 then 2 else if k = 5 ∨ k = 6 then 6 else if k = 7 then 7 else if k = 10 then 8 else if k = 11 then 16 else 5

theorem u1_back {n : Int} (h : 0 ≤ n) (h2 : n ≤ 255) : ((u1 n).toNat : Int) = n := by
  unfold u1; rw [UInt8.toNat_ofNat']; omega
theorem octs4 (n : Nat) : octs 4 n = [UInt8.ofNat (n / 256 / 256 / 256), UInt8.ofNat (n / 256 / 256), UInt8.ofNat (n / 256), UInt8.ofNat n] := by simp [octs]
theorem octs2 (n : Nat) : octs 2 n = [UInt8.ofNat (n / 256), UInt8.ofNat n] := by simp [octs]
theorem inI_iff {n a b : Int} : inI n a b = true ↔ a ≤ n ∧ n ≤ b := by simp [inI]
theorem ofNat_toNat (n : Nat) : ((UInt8.ofNat n).toNat : Int) = (n : Int) % 256 := by rw [UInt8.toNat_ofNat']; omega

theorem okM_parts {m : M} (h : okM m = true) : namedM m = m ∧ (1 ≤ m.kind ∧ m.kind ≤ 11) ∧ (0 ≤ m.seq ∧ m.seq ≤ 4294967295) ∧ (0 ≤ m.epoch ∧ m.epoch ≤ 65535) ∧ (0 ≤ m.role ∧ m.role ≤ 3) ∧ (0 ≤ m.to_ ∧ m.to_ ≤ 4) ∧ (0 ≤ m.mode ∧ m.mode ≤ 4) ∧ (0 ≤ m.cls ∧ m.cls ≤ 3) ∧
    (-32768 ≤ m.x0 ∧ m.x0 ≤ 32767) ∧ (-32768 ≤ m.x1 ∧ m.x1 ≤ 32767) ∧ (-32768 ≤ m.x2 ∧ m.x2 ≤ 32767) ∧ (-32768 ≤ m.x3 ∧ m.x3 ≤ 32767) := by
  unfold okM fitsM at h
  simp only [Bool.and_eq_true, inI_iff, decide_eq_true_eq] at h
  obtain ⟨⟨⟨⟨⟨a0, a1⟩, a2⟩, a3⟩, ⟨⟨⟨⟨⟨⟨k, s⟩, e⟩, r⟩, t⟩, mo⟩, c⟩⟩, n⟩ := h
  refine ⟨n, k, s, e, r, t, mo, ⟨?_, c.2⟩, a0, a1, a2, a3⟩
  have := c.1
  split at this <;> omega
theorem msgB_len {m : M} : (msgB m).length = sizeM m.kind := by
  unfold msgB sizeM
  by_cases h1 : m.kind = 1 ∨ m.kind = 2
  · rw [if_pos h1, if_pos h1]; rfl
  rw [if_neg h1, if_neg h1, List.length_cons, List.length_append, octs_len]
  by_cases h5 : m.kind = 5
  · rw [if_pos h5, if_pos (Or.inl h5)]; rfl
  rw [if_neg h5]
  by_cases h6 : m.kind = 6
  · rw [if_pos h6, if_pos (Or.inr h6)]; rfl
  rw [if_neg h6, if_neg (show ¬ (m.kind = 5 ∨ m.kind = 6) from fun h => h.elim h5 h6)]
  by_cases h7 : m.kind = 7
  · rw [if_pos h7, if_pos h7, octs_len]
  rw [if_neg h7, if_neg h7]
  by_cases h10 : m.kind = 10
  · rw [if_pos h10, if_pos h10, List.length_append, octs_len]; rfl
  rw [if_neg h10, if_neg h10]
  by_cases h11 : m.kind = 11
  · rw [if_pos h11, if_pos h11]
    simp [octs_len]
  · rw [if_neg h11, if_neg h11]; rfl
theorem signed_two {x : Int} (h1 : -32768 ≤ x) (h2 : x ≤ 32767) : signed (256 * (sign x / 256 % 256) + sign x % 256) = x := by
  have h := sign_lt x
  rw [show 256 * (sign x / 256 % 256) + sign x % 256 = sign x by omega]
  exact signed_sign h1 h2
set_option maxHeartbeats 1000000 in
/-- what was put is taken -/
theorem dec_msg {m : M} (h : okM m = true) : decM (msgB m) = m := by
  obtain ⟨hn, hk, hs, he, hr, ht, hmo, hc, h0, h1, h2, h3⟩ := okM_parts h
  obtain ⟨kind, seq, role, to_, epoch, mode, cls, now, x0, x1, x2, x3⟩ := m
  simp only at hk hs he hr ht hmo hc h0 h1 h2 h3
  have w0 := signed_two h0.1 h0.2
  have w1 := signed_two h1.1 h1.2
  have w2 := signed_two h2.1 h2.2
  have w3 := signed_two h3.1 h3.2
  have hkk : kind = 1 ∨ kind = 2 ∨ kind = 3 ∨ kind = 4 ∨ kind = 5 ∨ kind = 6 ∨ kind = 7 ∨ kind = 8 ∨ kind = 9 ∨ kind = 10 ∨ kind = 11 := by omega
  rcases hkk with rfl | rfl | rfl | rfl | rfl | rfl | rfl | rfl | rfl | rfl | rfl
  all_goals
    replace hn := hn.symm
    simp [namedM, zM] at hn
    simp [decM, msgB, namedM, atB, zM, octs4, octs2, u1, two, w0, w1, w2, w3, hn]
    try omega
    try (refine ⟨by omega, ?_⟩; cases now <;> rfl)

/-- what bytes say, if anything -/
def takeM (l : List UInt8) : Option M := if l.length ≤ 16 ∧ okM (decM l) = true ∧ msgB (decM l) = l then some (decM l) else none
theorem sizeM_le (k : Int) : sizeM k ≤ 16 ∧ 2 ≤ sizeM k := by
  unfold sizeM
  repeat' split
  all_goals omega
theorem take_msg {m : M} (h : okM m = true) : takeM (msgB m) = some m := by
  unfold takeM
  rw [dec_msg h, if_pos ⟨by rw [msgB_len]; exact (sizeM_le _).1, h, rfl⟩]
theorem take_is {l : List UInt8} {m : M} (h : takeM l = some m) : okM m = true ∧ msgB m = l := by
  unfold takeM at h
  split at h
  · rename_i h'
    obtain rfl := Option.some.inj h
    exact ⟨h'.2.1, h'.2.2⟩
  · cases h
theorem msg_inj {x y : M} (hx : okM x = true) (hy : okM y = true) (h : msgB x = msgB y) : x = y := by rw [← dec_msg hx, h, dec_msg hy]
theorem msg_head (m : M) : (msgB m).getD 0 0 = u1 m.kind := rfl
theorem kind_of {x y : M} (hx : okM x = true) (hy : okM y = true) (h : u1 x.kind = u1 y.kind) : x.kind = y.kind := by
  have h1 := (okM_parts hx).2.1
  have h2 := (okM_parts hy).2.1
  rw [← u1_back (n := x.kind) (by omega) (by omega), ← u1_back (n := y.kind) (by omega) (by omega), h]
/-- none's bytes are the beginning of another one's -/
theorem msg_begins {x y : M} (hx : okM x = true) (hy : okM y = true) (m : List UInt8) (h : msgB x ++ m = msgB y) : x = y := by
  have hk : x.kind = y.kind := by
    apply kind_of hx hy
    rw [← msg_head, ← msg_head, ← h]
    rfl
  have hl := congrArg List.length h
  rw [List.length_append, msgB_len, msgB_len, hk] at hl
  have : m = [] := List.eq_nil_of_length_eq_zero (by omega)
  subst this
  rw [List.append_nil] at h
  exact msg_inj hx hy h
theorem msg_prefix {x y : M} (hx : okM x = true) (hy : okM y = true) (n : Nat) (hn : n = min (msgB x).length (msgB y).length) : (msgB x).take n = (msgB y).take n ↔ x = y := by
  refine ⟨fun h => ?_, fun h => by rw [h]⟩
  have gx : (msgB x).length ≤ n ∨ (msgB y).length ≤ n := by omega
  rcases gx with g | g
  · rw [List.take_of_length_le g] at h
    exact msg_begins hx hy ((msgB y).drop n) (by rw [h]; exact List.take_append_drop _ _)
  · rw [List.take_of_length_le g] at h
    exact (msg_begins hy hx ((msgB x).drop n) (by rw [← h]; exact List.take_append_drop _ _)).symm
/-- from which some are missing, or to which one is added -/
theorem msg_cut {m : M} (h : okM m = true) (k : Nat) (hk : k < (msgB m).length) : takeM ((msgB m).take k) = none := by
  cases ht : takeM ((msgB m).take k) with
  | none => rfl
  | some y =>
    obtain ⟨hy, he⟩ := take_is ht
    have := msg_begins hy h ((msgB m).drop k) (by rw [he]; exact List.take_append_drop _ _)
    subst this
    have := congrArg List.length he
    rw [List.length_take] at this
    omega
theorem msg_more {m : M} (h : okM m = true) (l : List UInt8) (hl : l ≠ []) : takeM (msgB m ++ l) = none := by
  cases ht : takeM (msgB m ++ l) with
  | none => rfl
  | some y =>
    obtain ⟨hy, he⟩ := take_is ht
    have := msg_begins h hy l he.symm
    subst this
    have h1 := congrArg List.length he
    have := List.length_pos_iff.2 hl
    rw [List.length_append] at h1
    omega

/-- a reply; the nonce: 8 bytes -/
structure R where
  kind : Int
  seq : Int
  role : Int
  who : Int
  epoch : Int
  code : Int
  nonce : List UInt8
  deriving DecidableEq
def z8 : List UInt8 := List.replicate 8 0
def zR : R := ⟨0, 0, 0, 0, 0, 0, z8⟩
def namedR (r : R) : R :=
  if r.kind = 129 then { zR with kind := r.kind, nonce := r.nonce }
  else if r.kind = 130 then { zR with kind := r.kind, role := r.role, who := r.who, epoch := r.epoch }
  else if r.kind = 131 then { zR with kind := r.kind, seq := r.seq }
  else if r.kind = 132 then { zR with kind := r.kind, seq := r.seq, code := r.code }
  else if r.kind = 133 then { zR with kind := r.kind, epoch := r.epoch }
  else if r.kind = 134 ∨ r.kind = 135 then { zR with kind := r.kind, who := r.who, epoch := r.epoch }
  else if r.kind = 136 then { zR with kind := r.kind, who := r.who, code := r.code }
  else { zR with kind := r.kind }
def fitsR (r : R) : Bool := inI r.kind 129 136 && inI r.seq 0 4294967295 && inI r.role 0 3 && inI r.who 0 4 && inI r.epoch 0 65535 && inI r.code 0 255
def okR (r : R) : Bool := fitsR r && decide (namedR r = r)
def replyB (r : R) : List UInt8 :=
  u1 r.kind :: (if r.kind = 129 then r.nonce else if r.kind = 130 then [u1 r.role, u1 r.who] ++ octs 2 r.epoch.toNat else if r.kind = 131 then octs 4 r.seq.toNat else if r.kind = 132 then octs 4 r.seq.toNat ++ [u1 r.code]
    else if r.kind = 133 then octs 2 r.epoch.toNat else if r.kind = 136 then [u1 r.who, u1 r.code] else [u1 r.who] ++ octs 2 r.epoch.toNat)
def decR (l : List UInt8) : R :=
  if atB l 0 = 129 then { zR with kind := atB l 0, nonce := (List.range 8).map fun i => l.getD (1 + i) 0 }
  else if atB l 0 = 130 then { zR with kind := atB l 0, role := atB l 1, who := atB l 2, epoch := 256 * atB l 3 + atB l 4 }
  else if atB l 0 = 131 then { zR with kind := atB l 0, seq := 16777216 * atB l 1 + 65536 * atB l 2 + 256 * atB l 3 + atB l 4 }
  else if atB l 0 = 132 then { zR with kind := atB l 0, seq := 16777216 * atB l 1 + 65536 * atB l 2 + 256 * atB l 3 + atB l 4, code := atB l 5 }
  else if atB l 0 = 133 then { zR with kind := atB l 0, epoch := 256 * atB l 1 + atB l 2 }
  else if atB l 0 = 134 ∨ atB l 0 = 135 then { zR with kind := atB l 0, who := atB l 1, epoch := 256 * atB l 2 + atB l 3 }
  else if atB l 0 = 136 then { zR with kind := atB l 0, who := atB l 1, code := atB l 2 }
  else { zR with kind := atB l 0 }
def sizeR (k : Int) : Nat := if k = 129 then 9 else if k = 130 ∨ k = 131 then 5 else if k = 132 then 6 else if k = 133 ∨ k = 136 then 3 else 4
theorem okR_parts {r : R} (h : okR r = true) : namedR r = r ∧ (129 ≤ r.kind ∧ r.kind ≤ 136) ∧ (0 ≤ r.seq ∧ r.seq ≤ 4294967295) ∧ (0 ≤ r.role ∧ r.role ≤ 3) ∧ (0 ≤ r.who ∧ r.who ≤ 4) ∧ (0 ≤ r.epoch ∧ r.epoch ≤ 65535) ∧ (0 ≤ r.code ∧ r.code ≤ 255) := by
  unfold okR fitsR at h
  simp only [Bool.and_eq_true, inI_iff, decide_eq_true_eq] at h
  obtain ⟨⟨⟨⟨⟨⟨k, s⟩, r'⟩, w⟩, e⟩, c⟩, n⟩ := h
  exact ⟨n, k, s, r', w, e, c⟩
theorem kinds_R {k : Int} (h : 129 ≤ k ∧ k ≤ 136) : k = 129 ∨ k = 130 ∨ k = 131 ∨ k = 132 ∨ k = 133 ∨ k = 134 ∨ k = 135 ∨ k = 136 := by omega
theorem replyB_len {r : R} (h : okR r = true) (h8 : r.nonce.length = 8) : (replyB r).length = sizeR r.kind := by
  obtain ⟨hn, hk, -⟩ := okR_parts h
  unfold replyB sizeR
  rcases kinds_R hk with e | e | e | e | e | e | e | e <;> simp [e, octs_len, h8]
theorem eight {l : List UInt8} (h : l.length = 8) : ∃ a b c d e f g i, l = [a, b, c, d, e, f, g, i] := by
  match l, h with
  | [a, b, c, d, e, f, g, i], _ => exact ⟨a, b, c, d, e, f, g, i, rfl⟩
set_option maxHeartbeats 1000000 in
theorem dec_reply {r : R} (h : okR r = true) (h8 : r.nonce.length = 8) : decR (replyB r) = r := by
  obtain ⟨hn, hk, hs, hr, hw, he, hc⟩ := okR_parts h
  obtain ⟨kind, seq, role, who, epoch, code, nonce⟩ := r
  simp only at hk hs hr hw he hc h8
  obtain ⟨a, b, c, d, e, f, g, i, rfl⟩ := eight h8
  rcases kinds_R hk with rfl | rfl | rfl | rfl | rfl | rfl | rfl | rfl
  all_goals
    replace hn := hn.symm
    simp [namedR, zR] at hn
    simp [decR, replyB, atB, zR, octs4, octs2, u1, hn, List.range_succ]
    try omega
def takeR (l : List UInt8) : Option R := if l.length ≤ 9 ∧ okR (decR l) = true ∧ replyB (decR l) = l then some (decR l) else none
theorem decR_eight (l : List UInt8) : (decR l).nonce.length = 8 := by
  unfold decR
  split
  · simp
  split
  · rfl
  split
  · rfl
  split
  · rfl
  split
  · rfl
  split
  · rfl
  split <;> rfl
theorem sizeR_le (k : Int) : sizeR k ≤ 9 ∧ 3 ≤ sizeR k := by
  unfold sizeR
  split
  · omega
  split
  · omega
  split
  · omega
  split <;> omega
theorem take_reply {r : R} (h : okR r = true) (h8 : r.nonce.length = 8) : takeR (replyB r) = some r := by
  unfold takeR
  rw [dec_reply h h8, if_pos ⟨by rw [replyB_len h h8]; exact (sizeR_le _).1, h, rfl⟩]
theorem takeR_is {l : List UInt8} {r : R} (h : takeR l = some r) : okR r = true ∧ replyB r = l ∧ r.nonce.length = 8 := by
  unfold takeR at h
  split at h
  · rename_i h'
    obtain rfl := Option.some.inj h
    exact ⟨h'.2.1, h'.2.2, decR_eight l⟩
  · cases h
theorem reply_inj {x y : R} (hx : okR x = true) (hy : okR y = true) (x8 : x.nonce.length = 8) (y8 : y.nonce.length = 8) (h : replyB x = replyB y) : x = y := by rw [← dec_reply hx x8, h, dec_reply hy y8]
theorem kindR_of {x y : R} (hx : okR x = true) (hy : okR y = true) (h : u1 x.kind = u1 y.kind) : x.kind = y.kind := by
  have h1 := (okR_parts hx).2.1
  have h2 := (okR_parts hy).2.1
  rw [← u1_back (n := x.kind) (by omega) (by omega), ← u1_back (n := y.kind) (by omega) (by omega), h]
theorem reply_begins {x y : R} (hx : okR x = true) (hy : okR y = true) (x8 : x.nonce.length = 8) (y8 : y.nonce.length = 8) (m : List UInt8) (h : replyB x ++ m = replyB y) : x = y := by
  have hk : x.kind = y.kind := by
    apply kindR_of hx hy
    have := congrArg (fun l => l.getD 0 0) h
    exact this
  have hl := congrArg List.length h
  rw [List.length_append, replyB_len hx x8, replyB_len hy y8, hk] at hl
  have : m = [] := List.eq_nil_of_length_eq_zero (by omega)
  subst this
  rw [List.append_nil] at h
  exact reply_inj hx hy x8 y8 h
theorem reply_cut {r : R} (h : okR r = true) (h8 : r.nonce.length = 8) (k : Nat) (hk : k < (replyB r).length) : takeR ((replyB r).take k) = none := by
  cases ht : takeR ((replyB r).take k) with
  | none => rfl
  | some y =>
    obtain ⟨hy, he, y8⟩ := takeR_is ht
    have := reply_begins hy h y8 h8 ((replyB r).drop k) (by rw [he]; exact List.take_append_drop _ _)
    subst this
    have := congrArg List.length he
    rw [List.length_take] at this
    omega
/-- no message's bytes are a reply's, nor the other way about -/
theorem unlike {m : M} {r : R} (hm : okM m = true) (hr : okR r = true) : msgB m ≠ replyB r := fun h => by
  have h1 := (okM_parts hm).2.1
  have h2 := (okR_parts hr).2.1
  have : u1 m.kind = u1 r.kind := congrArg (fun l => l.getD 0 0) h
  have e := congrArg (fun c : UInt8 => (c.toNat : Int)) this
  rw [u1_back (by omega) (by omega), u1_back (by omega) (by omega)] at e
  omega
theorem reply_none {m : M} (hm : okM m = true) : takeR (msgB m) = none := by
  cases h : takeR (msgB m) with
  | none => rfl
  | some r => exact absurd (takeR_is h).2.1.symm (unlike hm (takeR_is h).1)
theorem msg_none {r : R} (hr : okR r = true) : takeM (replyB r) = none := by
  cases h : takeM (replyB r) with
  | none => rfl
  | some m => exact absurd (take_is h).2 (unlike (take_is h).1 hr)

/-- a message that may be -/
def fitM (m : M) : M := namedM ⟨1 + m.kind % 11, m.seq % 4294967296, m.role % 4, m.to_ % 5, m.epoch % 65536, m.mode % 5, 1 + m.cls % 3, m.now, m.x0 % 65536 - 32768, m.x1 % 65536 - 32768, m.x2 % 65536 - 32768, m.x3 % 65536 - 32768⟩
theorem fitM_kind (m : M) : (fitM m).kind = 1 + m.kind % 11 := by
  unfold fitM namedM
  repeat' split
  all_goals rfl
theorem named_named (m : M) : namedM (namedM m) = namedM m := by
  obtain ⟨kind, seq, role, to_, epoch, mode, cls, now, x0, x1, x2, x3⟩ := m
  by_cases h1 : kind = 1 ∨ kind = 2
  · simp [namedM, zM, h1]
  by_cases h5 : kind = 5
  · simp [namedM, zM, h5]
  by_cases h6 : kind = 6
  · simp [namedM, zM, h6]
  by_cases h7 : kind = 7
  · simp [namedM, zM, h7]
  by_cases h10 : kind = 10
  · simp [namedM, zM, h10]
  by_cases h11 : kind = 11
  · simp [namedM, zM, h11]
  · simp [namedM, zM, h1, h5, h6, h7, h10, h11]
theorem fit_ok (m : M) : okM (fitM m) = true := by
  have hf : fitsM (fitM m) = true := by
    obtain ⟨kind, seq, role, to_, epoch, mode, cls, now, x0, x1, x2, x3⟩ := m
    have hk : 1 ≤ 1 + kind % 11 ∧ 1 + kind % 11 ≤ 11 := by omega
    unfold fitM
    simp only
    generalize 1 + kind % 11 = k at hk ⊢
    have hkk : k = 1 ∨ k = 2 ∨ k = 3 ∨ k = 4 ∨ k = 5 ∨ k = 6 ∨ k = 7 ∨ k = 8 ∨ k = 9 ∨ k = 10 ∨ k = 11 := by omega
    rcases hkk with rfl | rfl | rfl | rfl | rfl | rfl | rfl | rfl | rfl | rfl | rfl
    all_goals
      simp [fitsM, namedM, zM, inI]
      try omega
  unfold okM
  rw [hf]
  simp [fitM, named_named]
/-- a reply that may be -/
def fitR (r : R) : R := namedR ⟨129 + r.kind % 8, r.seq % 4294967296, r.role % 4, r.who % 5, r.epoch % 65536, r.code % 256, r.nonce⟩
theorem fitR_ok (r : R) : okR (fitR r) = true := by
  obtain ⟨kind, seq, role, who, epoch, code, nonce⟩ := r
  have hk : 129 ≤ 129 + kind % 8 ∧ 129 + kind % 8 ≤ 136 := by omega
  unfold fitR
  simp only
  generalize 129 + kind % 8 = k at hk ⊢
  rcases kinds_R hk with rfl | rfl | rfl | rfl | rfl | rfl | rfl | rfl
  all_goals
    simp [okR, fitsR, namedR, zR, inI]
    try omega
theorem fitR_eight (r : R) (h : r.nonce.length = 8) : (fitR r).nonce.length = 8 := by
  unfold fitR namedR
  repeat' split
  all_goals first | rfl | simpa using h

/-- what Put, Take tell -/
def codeM (m : M) : Int := if okM m = true then 0 else 1
def bytesM (m : M) : List UInt8 := if okM m = true then msgB m else []
def codeT (l : List UInt8) : Int := if (takeM l).isSome = true then 0 else 13
def gotM (l : List UInt8) : M := (takeM l).getD zM
def codeR (r : R) : Int := if okR r = true then 0 else 1
def bytesR (r : R) : List UInt8 := if okR r = true then replyB r else []
def codeTR (l : List UInt8) : Int := if (takeR l).isSome = true then 0 else 13
def gotR (l : List UInt8) : R := (takeR l).getD zR
theorem code_ok {m : M} (h : okM m = true) : codeM m = 0 ∧ bytesM m = msgB m := ⟨if_pos h, if_pos h⟩
theorem code_no {m : M} (h : okM m = false) : codeM m = 1 ∧ bytesM m = [] := ⟨if_neg (by simp [h]), if_neg (by simp [h])⟩
theorem got_ok {m : M} (h : okM m = true) : codeT (msgB m) = 0 ∧ gotM (msgB m) = m := by unfold codeT gotM; rw [take_msg h]; exact ⟨rfl, rfl⟩
theorem got_no {l : List UInt8} (h : takeM l = none) : codeT l = 13 ∧ gotM l = zM := by unfold codeT gotM; rw [h]; exact ⟨rfl, rfl⟩
theorem codeR_ok {r : R} (h : okR r = true) : codeR r = 0 ∧ bytesR r = replyB r := ⟨if_pos h, if_pos h⟩
theorem gotR_ok {r : R} (h : okR r = true) (h8 : r.nonce.length = 8) : codeTR (replyB r) = 0 ∧ gotR (replyB r) = r := by unfold codeTR gotR; rw [take_reply h h8]; exact ⟨rfl, rfl⟩
theorem gotR_no {l : List UInt8} (h : takeR l = none) : codeTR l = 13 ∧ gotR l = zR := by unfold codeTR gotR; rw [h]; exact ⟨rfl, rfl⟩
theorem gotR_eight (l : List UInt8) : (gotR l).nonce.length = 8 := by
  cases h : takeR l with
  | none => rw [(gotR_no h).2]; rfl
  | some r => unfold gotR; rw [h]; exact (takeR_is h).2.2
end Go.Proofs.Ytmibgmcgicphoaa.msg
