/-
  THE WALK OF 'PackParts': a number of two parts is told by the bytes of the higher one, and those of the lower one behind them.
-/
import Derived.Test.YteeclciaifkneaaPackShown
import Derived.Test.YteeclciaifkneaaArgs
namespace Go.Proofs.Yteeclciaifkneaa.walks
open Go.ChangeShapes Go.WideShapes Go.ChangeAt Go.RowKit Go.Proofs.Yteeclciaifkneaa.octets Go.Proofs.Yteeclciaifkneaa.pack Go.Proofs.Yteeclciaifkneaa.given
set_option linter.unusedVariables false

theorem cat_list (a b : List UInt8) : (({ data := a.toArray } : ByteArray) ++ ({ data := b.toArray } : ByteArray)).toList = a ++ b := by
  rw [Lib.toList_data, ByteArray.data_append]; simp

set_option maxRecDepth 100000 in
set_option maxHeartbeats 1000000 in
theorem parts_core (a b x y m k : Nat) (s0 s1 : Int) (w : World) (ha : a < 4294967296) (hb : b < 4294967296) (b1 : 0 ≤ s0) (b2 : s0 ≤ 255) (b3 : 0 ≤ s1) (b4 : s1 ≤ 255) (eM : s0 % 5 = (m : Int)) (eK : s1 % 5 = (k : Int)) (hm : m < 5) (hk : k < 5)
    (eX : bits BinOp.and IntKind.u64 (a : Int) (IntKind.u64.wrap (IntKind.u64.wrap (2 ^ (8 * m)) - 1)) = (x : Int)) (eY : bits BinOp.and IntKind.u64 (b : Int) (IntKind.u64.wrap (IntKind.u64.wrap (2 ^ (8 * k)) - 1)) = (y : Int))
    (hx : Hid (x < 256 ^ m)) (hy : Hid (y < 256 ^ k)) (hx' : x < 4294967296) (hy' : y < 4294967296)
    (z : Nat) (eZ : bits BinOp.or IntKind.u64 (IntKind.u64.wrap ((x : Int) * 2 ^ (8 * k))) (y : Int) = (z : Int)) (hz : Hid (z = x * 256 ^ k + y)) (hz' : z ≤ 18446744073709551615) (hzl : Hid (z < 256 ^ (m + k))) :
    Calls Try.prog 6 #[.int .u32 a, .int .u32 b, .agg #[.int .u8 s0, .int .u8 s1]] w fun e w' => e = .returned (.bool true) ∧ Below w.heap.size w w' := by
  go_enter Try.func6, Try.ntmps6
  try dsimp only [List.append]
  go_wp2_with fail
  (with_reducible refine (shown_any _).mono ?_)
  rintro e w1 ⟨rfl, hw1⟩
  have hbox : w1.cell? ⟨w.heap.size, 0, none⟩ = some (.int .u8 s0) := by rw [hw1.cell (by simp)]; simp
  have hbox1 : w1.cell? ⟨w.heap.size, 1, none⟩ = some (.int .u8 s1) := by rw [hw1.cell (by simp)]; simp
  have hw01 : Below w.heap.size w w1 := ((Below.refl _ _).alloc (Nat.le_refl _) _).trans (hw1.mono (by simp))
  clear hw1
  go_wp2_with fail
  clear hbox hbox1
  (with_reducible refine (put_at _ _ x m _ rfl rfl (by omega) hx.out).mono ?_)
  rintro e w2 ⟨p, rfl, hp, hr2, hw2⟩
  clear eX
  go_wp2_with fail
  (with_reducible refine (put_at _ _ y k _ rfl rfl (by omega) hy.out).mono ?_)
  rintro e w3 ⟨q, rfl, hq, hr3, hw3⟩
  clear eY
  rw [octs_len, octs_len]
  go_wp2_with fail
  (with_reducible refine (put_at _ _ z (m + k) _ ?_ ?_ (by omega) hzl.out).mono ?_)
  · rfl
  · omega
  rintro e w4 ⟨u, rfl, hu, hr4, hw4⟩
  rw [octs_len]
  have hp' := (hr2.since hw3).since hw4
  have hq' := hr3.since hw4
  have hw02 := hw01.trans (hw2.mono hw01.size)
  have hw03 := hw02.trans (hw3.mono hw02.size)
  have hw04 := hw03.trans (hw4.mono hw03.size)
  clear hr2 hr3 hw2 hw3 hw4 hw01 hw02 hw03
  have hsp := hp'.seen.alloc (.cells #[] 5)
  have hsq := hq'.seen.alloc (.cells #[] 5)
  have hz4 := hw04.size
  go_wp2_with (at_builtin; refine wpList_append_octs _ rfl (.tmp 69) (.tmp 70) rfl w.heap.size _ [] rfl (own_none _ _ hz4) ⟨p, 0, none⟩ (octs m x) m m (octs_len m x) rfl hsp ?_ ?_ ?_)
  · simp [octs_len]; omega
  · simp; omega
  intro v1 w5 hown1 hg1 hat1
  have h1 : ∀ (b : Nat) {l : List UInt8}, b < w4.heap.size → Row (w4.alloc (.cells #[] 5)) b l → Row w5 b l := fun b l hb h => h.grown hg1 (by simp [Value.ownBlock]; omega)
  have hw05 : Below w.heap.size w w5 := (hw04.alloc hz4 _).grown hg1 (by simp; omega) (by intro g hg; simp [Value.ownBlock] at hg; omega)
  go_wp2_with (at_builtin; refine wpList_append_octs _ rfl (.tmp 71) (.tmp 72) rfl w.heap.size v1 (octs m x) rfl ?_ ⟨q, 0, none⟩ (octs k y) k k (octs_len k y) rfl ?_ ?_ ?_ ?_)
  · exact hown1
  · exact (h1 q hq'.lt (hq'.alloc_ _)).seen
  · rw [octs_len, octs_len]; omega
  · exact hw05.size
  intro v2 w6 hown2 hg2 hat2
  rw [octs_len, octs_len] at hown2
  have hne : ∀ b, b < w4.heap.size → some b ≠ v1.ownBlock := by
    intro b hb e
    rcases hat1 with h | h <;> rw [h] at e <;> simp [Value.ownBlock] at e <;> omega
  have hp6 := (h1 p hp'.lt (hp'.alloc_ _)).grown hg2 (hne p hp'.lt)
  have hq6 := (h1 q hq'.lt (hq'.alloc_ _)).grown hg2 (hne q hq'.lt)
  have hu6 := (h1 u hr4.lt (hr4.alloc_ _)).grown hg2 (hne u hr4.lt)
  have hw06 : Below w.heap.size w w6 := hw05.grown hg2 hw05.size (by
    intro g hg
    rcases hat1 with h | h <;> rw [h] at hg <;> simp [Value.ownBlock] at hg <;> omega)
  have e5 : octs m x ++ octs k y = octs (m + k) z := by rw [hz.out]; exact (octs_add k m x y hy.out).symm
  obtain ⟨A, c, rfl, hA⟩ := seen_own (l := octs m x ++ octs k y) (by rw [List.length_append, octs_len, octs_len]; exact hown2)
  have hlen : (octs m x ++ octs k y).length = m + k := by rw [List.length_append, octs_len, octs_len]
  rw [hlen]
  rw [e5] at hA
  have c1 := hp6.str m (octs_len _ _) _ rfl
  have c2 := hq6.str k (octs_len _ _) _ rfl
  have c3 := hu6.str (m + k) (octs_len _ _) _ rfl
  have he5 := Lib.hid e5
  clear hlen e5 hown1 hown2 hg1 hg2 hat1 hat2 hne hp6 hq6 hu6 hp' hq' hr4 h1 hw05
  go_wp2_with fail
  (with_reducible refine (take_seen_at _ _ _ z _ _ ?_ ?_ hA ?_).mono ?_)
  · exact octs_len _ _
  · omega
  · exact num_back hzl.out
  rintro e w' ⟨rfl, rfl⟩
  have hcat : (({ data := (octs m x).toArray } : ByteArray) ++ ({ data := (octs k y).toArray } : ByteArray)).toList = octs (m + k) z := by
    rw [← he5.out]; exact cat_list _ _
  have hlm : (octs m x).length ≤ 4 := by rw [octs_len]; omega
  have hlk : (octs k y).length ≤ 4 := by rw [octs_len]; omega
  go_wp2_with fail
  go_ret
  exact ⟨rfl, hw06⟩

/-- '|' of two parts -/
theorem or_parts (x y k : Nat) (hx : x < 4294967296) (hk : k < 5) (hy : y < 256 ^ k) : bits BinOp.or IntKind.u64 (IntKind.u64.wrap ((x : Int) * 2 ^ (8 * k))) (y : Int) = ((x * 256 ^ k + y : Nat) : Int) := by
  have hp : 256 ^ k ≤ 256 ^ 4 := Nat.pow_le_pow_right (by decide) (by omega)
  have h4 : (256 : Nat) ^ 4 = 4294967296 := by decide
  have e : ((x : Int) * 2 ^ (8 * k)) = ((x * 2 ^ (8 * k) : Nat) : Int) := by simp
  have hmul : x * 2 ^ (8 * k) ≤ 4294967295 * 4294967296 := Nat.mul_le_mul (by omega) (by rw [← pow_8]; omega)
  have ew : IntKind.u64.wrap ((x * 2 ^ (8 * k) : Nat) : Int) = ((x * 2 ^ (8 * k) : Nat) : Int) := by rw [IntKind.wrap_u64]; omega
  rw [e, ew, bits_or_u64_nat _ _ (by omega) (by omega), pow_8]
  have h := Nat.shiftLeft_add_eq_or_of_lt (b := y) (i := 8 * k) (by rw [← pow_8]; exact hy) x
  rw [Nat.shiftLeft_eq] at h
  rw [← h]

theorem u32_parts {n : Int} (h : (Lit.int .u32 n).wf = true) : 0 ≤ n ∧ n ≤ 4294967295 := by
  simpa [Lit.wf, IntKind.min, IntKind.max, IntKind.signed, IntKind.bits] using h
theorem u8_parts {n : Int} (h : (Lit.int .u8 n).wf = true) : 0 ≤ n ∧ n ≤ 255 := by
  simpa [Lit.wf, IntKind.min, IntKind.max, IntKind.signed, IntKind.bits] using h

theorem packParts (a0 : Int) (a1 : Int) (v2 : Value) (w : World) {base : Nat} (w0 : (Lit.int .u32 a0).wf = true) (w1 : (Lit.int .u32 a1).wf = true) (w2 : Value.okWide Try.prog w .any base 37 v2) :
    Calls Try.prog 6 #[.int .u32 a0, .int .u32 a1, v2] w fun e w' => e = .returned (.bool true) ∧ Below w.heap.size w w' := by
  have h0 := u32_parts w0
  have h1 := u32_parts w1
  obtain ⟨c0, c1, rfl, k0, k1⟩ := agg_two (.inl ⟨2, _, Try.underlying37⟩) (by kernel_rfl) (by kernel_rfl) w2
  obtain ⟨s0, rfl, g0⟩ := int_of_cell Try.underlying5 k0
  obtain ⟨s1, rfl, g1⟩ := int_of_cell Try.underlying5 k1
  have b0 := u8_parts g0
  have b1 := u8_parts g1
  obtain ⟨a, rfl⟩ := Int.eq_ofNat_of_zero_le h0.1
  obtain ⟨b, rfl⟩ := Int.eq_ofNat_of_zero_le h1.1
  obtain ⟨m, hm⟩ := Int.eq_ofNat_of_zero_le (Int.emod_nonneg s0 (show (5 : Int) ≠ 0 by decide))
  have hm5 := Int.emod_lt_of_pos s0 (show (0 : Int) < 5 by decide)
  obtain ⟨k, hk⟩ := Int.eq_ofNat_of_zero_le (Int.emod_nonneg s1 (show (5 : Int) ≠ 0 by decide))
  have hk5 := Int.emod_lt_of_pos s1 (show (0 : Int) < 5 by decide)
  have hpm : 0 < 256 ^ m := Nat.pow_pos (by decide)
  have hpk : 0 < 256 ^ k := Nat.pow_pos (by decide)
  have hx := Nat.mod_lt a hpm
  have hy := Nat.mod_lt b hpk
  have lx := Nat.mod_le a (256 ^ m)
  have ly := Nat.mod_le b (256 ^ k)
  have hz : a % 256 ^ m * 256 ^ k + b % 256 ^ k < 256 ^ (m + k) := by
    rw [Nat.pow_add]
    have := Nat.mul_le_mul_right (256 ^ k) (show a % 256 ^ m + 1 ≤ 256 ^ m from hx)
    rw [Nat.add_mul] at this
    omega
  have hz8 : 256 ^ (m + k) ≤ 256 ^ 8 := Nat.pow_le_pow_right (by decide) (by omega)
  have h8 : (256 : Nat) ^ 8 = 18446744073709551616 := by decide
  exact parts_core a b (a % 256 ^ m) (b % 256 ^ k) m k s0 s1 w (by omega) (by omega) b0.1 b0.2 b1.1 b1.2 hm hk (by omega) (by omega) (and_low a m (by omega) (by omega)) (and_low b k (by omega) (by omega))
    (Lib.hid hx) (Lib.hid hy) (by omega) (by omega) _ (or_parts _ _ k (by omega) (by omega) hy) (Lib.hid rfl) (by omega) (Lib.hid hz)
end Go.Proofs.Yteeclciaifkneaa.walks
