/-
  THE CONTRACTS OF seal's low AND joined, AND OF THE LIBRARY'S Clone OF BYTES.
-/
import Derived.Test.YtmgfgbdfmdblhaaDoorSeal
import Derived.Test.YtmgfgbdfmdblhaaDoorPack
namespace Go.Proofs.YtmgfgbdfmdblhaaDoor.sealed
open Go.RowKit Go.Proofs.YtmgfgbdfmdblhaaDoor.octets Go.Proofs.YtmgfgbdfmdblhaaDoor.sha Go.Proofs.YtmgfgbdfmdblhaaDoor.mac
set_option linter.unusedVariables false
set_option linter.unusedSimpArgs false

theorem octs_one (x : Int) : octs 1 (x % 256).toNat = [u8i x] := by
  simp [octs, u8i]
/-- bytes at the beginning of a block that is new -/
def Fresh (k : Nat) (l : List UInt8) (w : World) (e : Ending) (w' : World) : Prop :=
  ∃ b, e = .returned (.slice (some ⟨b, 0, none⟩) k k) ∧ w.heap.size ≤ b ∧ Seen w' (some ⟨b, 0, none⟩) l ∧ Below w.heap.size w w'
set_option maxHeartbeats 400000 in
theorem low_1 (x : Int) (w : World) : Calls Tryd.prog 15 #[.int .i64 x, .int .i64 1] w (Fresh 1 [u8i x] w) := by
  have E : (IntKind.u64.wrap x).tmod 256 = (((x % 256).toNat : Nat) : Int) := by rw [IntKind.wrap_u64, Int.tmod_eq_emod_of_nonneg (by omega)]; omega
  have E2 : (x % 256).toNat < 256 ^ 1 := by omega
  have E3 := octs_one x
  generalize (x % 256).toNat = q at E E2 E3
  replace E3 : Unit → octs 1 q = [u8i x] := fun _ => E3
  go_enter Tryd.func15, Tryd.ntmps15
  go_wp2_with fail
  (with_reducible refine (pack.put_at _ 1 q 1 _ rfl rfl (by decide) E2).mono ?_)
  rintro e w' ⟨b, rfl, hb1, hr, hb⟩
  rw [octs_len]
  have hs := hr.seen
  rw [E3 ()] at hs
  go_wp2
  go_ret
  exact ⟨b, rfl, hb1, hs, hb⟩
set_option maxHeartbeats 400000 in
theorem low_4 (x : Int) (w : World) : Calls Tryd.prog 15 #[.int .i64 x, .int .i64 4] w (Fresh 4 (octs 4 (low32 x)) w) := by
  have E : (IntKind.u64.wrap x).tmod 4294967296 = ((low32 x : Nat) : Int) := by unfold low32; rw [IntKind.wrap_u64, Int.tmod_eq_emod_of_nonneg (by omega)]; omega
  have E2 : low32 x < 256 ^ 4 := by unfold low32; omega
  generalize low32 x = q at E E2
  go_enter Tryd.func15, Tryd.ntmps15
  go_wp2_with fail
  (with_reducible refine (pack.put_at _ 4 q 4 _ rfl rfl (by decide) E2).mono ?_)
  rintro e w' ⟨b, rfl, hb1, hr, hb⟩
  rw [octs_len]
  have hs := hr.seen
  go_wp2
  go_ret
  exact ⟨b, rfl, hb1, hs, hb⟩
/-- a row of parts at block pb: what they read as, one behind the other -/
def Parts (w : World) (pb : Nat) (L : List (List UInt8)) : Prop :=
  ∀ i (h : i < L.length), ∃ A n c, w.cell? ⟨pb, i, none⟩ = some (.slice A n c) ∧ L[i].length = n ∧ Seen w A L[i]
theorem flat_step (L : List (List UInt8)) (i : Nat) (h : i < L.length) : (L.take (i + 1)).flatten = (L.take i).flatten ++ L[i] := by
  rw [List.take_succ_eq_append_getElem h, List.flatten_append]; simp
theorem flat_le (L : List (List UInt8)) (i : Nat) (h : i < L.length) : (L.take i).flatten.length + L[i].length ≤ L.flatten.length := by
  have h1 : (L.take (i + 1)).flatten.length ≤ L.flatten.length := by
    conv => rhs; rw [← List.take_append_drop (i + 1) L, List.flatten_append, List.length_append]
    omega
  rw [flat_step L i h, List.length_append] at h1
  exact h1
set_option maxRecDepth 100000 in
set_option maxHeartbeats 1000000 in
theorem joined_ok (x : Int) (u : UInt8) (hx : x = (u.toNat : Int)) (pb N d : Nat) (L : List (List UInt8)) (w : World) (hN : L.length = N) (hN8 : N ≤ 16) (hL : L.flatten.length ≤ 1048576) (hP : Parts w pb L) (hpb : pb < w.heap.size) :
    Calls Tryd.prog 14 #[.int .u8 x, .slice (some ⟨pb, 0, none⟩) N d] w fun e w' => ∃ v, e = .returned v ∧ Own w' w.heap.size v (u :: L.flatten) ∧ Below w.heap.size w w' := by
  subst hx
  have hlit : Own (w.alloc (.cells #[.int .u8 (u.toNat : Int)] 5)) w.heap.size (.slice (some ⟨w.heap.size, 0, none⟩) 1 1) [u] := (Held.lit w [u] #[.int .u8 (u.toNat : Int)] rfl (by simp [maxLen])).own (Nat.le_refl _)
  have hw1 : Below w.heap.size w (w.alloc (.cells #[.int .u8 (u.toNat : Int)] 5)) := (Below.refl _ _).alloc (Nat.le_refl _) _
  replace hP := Lib.hid hP
  replace hN := Lib.hid hN
  replace hL := Lib.hid hL
  go_enter Tryd.func14, Tryd.ntmps14
  go_wp2
  go_loopw [5, 12] (fun s t W => Below w.heap.size w W ∧ ∃ (i m : Nat) (B : Option Addr) (c : Nat) (l : List UInt8), i ≤ N ∧ t = .int .i64 i ∧ s = .slice B m c ∧ l.length = m ∧ Own W w.heap.size (.slice B m c) l ∧ l = u :: (L.take i).flatten) (fun _ t _ => N - (intOf t).toNat)
  case atStart => exact ⟨hw1, 0, 1, _, 1, [u], Nat.zero_le _, rfl, rfl, rfl, hlit, rfl⟩
  case round =>
    clear hw1 hlit
    obtain ⟨hw, i, m, B, c, l, hi, rfl, rfl, hl, ho, hll⟩ := hrel
    by_cases hlt : i < N
    · have hiL : i < L.length := by rw [hN.out]; exact hlt
      obtain ⟨A, n, c', hcell, hn, hs⟩ := hP.out i hiL
      have hcell' := (hw.cell (p := ⟨pb, i, none⟩) hpb).trans hcell
      have hs' := hs.since hw
      have hz := hw.size
      have hbound : l.length + L[i].length ≤ 140737488355328 := by
        have h1 := flat_le L i hiL
        have h2 := hL.out
        rw [hll, List.length_cons]
        omega
      have hnext : l ++ L[i] = u :: (L.take (i + 1)).flatten := by rw [hll, flat_step L i hiL, List.cons_append]
      have hlen : (l ++ L[i]).length = m + n := by rw [List.length_append, hl, hn]
      clear hll hcell hs
      generalize L[i] = p at hn hs' hbound hnext hlen
      replace hnext := Lib.hid hnext
      replace hlen := Lib.hid hlen
      replace hbound := Lib.hid hbound
      go_wp2_with (at_builtin; refine wpList_append_own_any _ rfl _ _ rfl w.heap.size _ l rfl ho A n c' rfl p hn hs' hbound.out hz ?_)
      intro v' w' ho' hg hor
      have hw' := ho.grew hw (Nat.le_refl _) hz hg
      obtain ⟨B', c2, rfl, hs2⟩ := ho'.seen_at hlen.out
      clear hs2 hg hor
      go_wp2
      go_roundw
      case rel => exact ⟨hw', i + 1, m + n, B', c2, l ++ p, by omega, by go_num, rfl, hlen.out, ho', hnext.out⟩
      case measure => simp [intOf]; omega
    · obtain rfl : i = N := by omega
      rw [List.take_of_length_le (by rw [hN.out]; exact Nat.le_refl _)] at hll
      subst hll
      go_wp2
      go_ret
      exact ⟨_, rfl, ho, hw⟩
set_option maxHeartbeats 400000 in
theorem clone_ok (A : Option Addr) (n c : Nat) (l : List UInt8) (w : World) (hl : l.length = n) (hn : n ≤ 1048576) (hs : Seen w A l) :
    Calls Tryd.prog 18 #[.slice A n c] w fun e w' => ∃ v, e = .returned v ∧ Own w' w.heap.size v l ∧ Below w.heap.size w w' := by
  have q : ∀ (w : World) (a : Option Addr) (n c n' c' : Nat), (binOp .eql 23 (.slice a n c) (.slice none n' c')).run Tryd.prog w = .ok (.bool a.isNone) w := fun w a n c n' c' => Lib.run_eql_slice_nil w _ _ a n c n' c' Tryd.underlying23
  rcases A with _ | ad
  · obtain rfl : l = [] := by
      rcases Classical.em (l = []) with h | h
      · exact h
      · obtain ⟨_, _, e, _⟩ := hs h; cases e
    obtain rfl : n = 0 := hl.symm
    go_enter Tryd.func18, Tryd.ntmps18
    go_wp2
    go_ret
    exact ⟨_, rfl, Own.none_ _ _, Below.refl _ _⟩
  · replace hl := Lib.hid hl
    go_enter Tryd.func18, Tryd.ntmps18
    go_wp2_with (at_builtin; refine wpList_append_own_any _ rfl (.tmp 5) (.tmp 6) rfl w.heap.size _ [] rfl (own_none _ _ (Nat.le_refl _)) (some ad) n c rfl l hl.out (hs.alloc _) (by rw [hl.out]; simp; omega) (by simp) ?_)
    intro v w3 hown hg hat
    have hw3 : Below w.heap.size w w3 := ((Below.refl _ _).alloc (Nat.le_refl _) _).grown hg (by simp) (by intro g hg; simp [Value.ownBlock] at hg; omega)
    go_wp2
    go_ret
    exact ⟨_, rfl, hown, hw3⟩
end Go.Proofs.YtmgfgbdfmdblhaaDoor.sealed
