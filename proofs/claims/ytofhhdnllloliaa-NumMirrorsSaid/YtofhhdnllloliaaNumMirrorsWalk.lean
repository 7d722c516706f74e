/-
  THE WALK OF 'NumMirrors': what max and min come to is laid ahead of it as equations, so that no way parts.
-/
import Derived.Test.YtofhhdnllloliaaNum
namespace Go.Proofs.Ytofhhdnllloliaa.walks
open Go.ChangeShapes Go.WideShapes Go.ChangeAt Go.RowKit Go.Proofs.Ytofhhdnllloliaa.num

theorem i64_wf {n : Int} (h : (Lit.int .i64 n).wf = true) : I64 n := by
  simpa [I64, Lit.wf, IntKind.min, IntKind.max, IntKind.signed, IntKind.bits] using h

theorem dist_neg (x y : Int) : dist (-x) (-y) = dist x y := by
  unfold dist; split <;> split <;> omega

theorem toward_neg (x y b : Int) : toward (-x) (-y) b = -toward x y b := by
  unfold toward
  rw [dist_neg]
  have hd : dist x y = 0 → x = y := by unfold dist; split <;> omega
  have hp := dist_bd x y
  by_cases h : b < 1
  · rw [if_pos h, if_pos h]
  · rw [if_neg h, if_neg h]
    by_cases h2 : dist x y ≤ b
    · rw [if_pos h2, if_pos h2]
    · rw [if_neg h2, if_neg h2]
      have hn : x ≠ y := by
        intro e; subst e; apply h2; unfold dist; split <;> omega
      by_cases h1 : x < y
      · rw [if_pos h1, if_neg (by omega)]; omega
      · rw [if_neg h1, if_pos (by omega)]; omega

theorem toward_within (x y b L : Int) (hx : -L ≤ x ∧ x ≤ L) (hy : -L ≤ y ∧ y ≤ L) : -L ≤ toward x y b ∧ toward x y b ≤ L := by
  unfold toward dist
  by_cases h : b < 1
  · rw [if_pos h]; exact hx
  · rw [if_neg h]
    by_cases h1 : x < y
    · rw [if_pos h1]
      by_cases h2 : y - x ≤ b
      · rw [if_pos h2]; exact hy
      · rw [if_neg h2]; rw [if_pos h1]; omega
    · rw [if_neg h1]
      by_cases h2 : x - y ≤ b
      · rw [if_pos h2]; exact hy
      · rw [if_neg h2]; rw [if_neg h1]; omega

theorem clamp_neg (x l h : Int) (hl : l ≤ h) : clamp (-x) (-h) (-l) = -clamp x l h := by
  unfold clamp
  by_cases h1 : x < l
  · rw [if_neg (by omega), if_pos (by omega), if_pos h1]
  · by_cases h2 : h < x
    · rw [if_pos (by omega), if_neg h1, if_pos h2]
    · rw [if_neg (by omega), if_neg (by omega), if_neg h1, if_neg h2]

theorem clamp_within (x l h L : Int) (hx : -L ≤ x ∧ x ≤ L) (hl : -L ≤ l ∧ l ≤ L) (hh : -L ≤ h ∧ h ≤ L) : -L ≤ clamp x l h ∧ clamp x l h ≤ L := by
  unfold clamp; split
  · exact hl
  · split
    · exact hh
    · exact hx

theorem top_within (a x : Int) (h : I64 a) (hx : (if (-9223372036854775807) > a then -9223372036854775807 else a) = x) : -9223372036854775807 ≤ x ∧ x ≤ 9223372036854775807 := by
  unfold I64 at h; subst hx; split <;> omega

theorem i64_small {x : Int} (h : -9223372036854775807 ≤ x ∧ x ≤ 9223372036854775807) : I64 x := ⟨by omega, h.2⟩
theorem i64_neg {x : Int} (h : -9223372036854775807 ≤ x ∧ x ≤ 9223372036854775807) : I64 (-x) := ⟨by omega, by omega⟩

set_option maxHeartbeats 2000000 in
theorem mirrors_core (a0 a1 a2 x y z low high t q : Int) (w : World) (b2 : Hid (I64 a2))
    (hx : (if (-9223372036854775807) > a0 then -9223372036854775807 else a0) = x) (hy : (if (-9223372036854775807) > a1 then -9223372036854775807 else a1) = y)
    (hz : (if (-9223372036854775807) > a2 then -9223372036854775807 else a2) = z) (hl : (if z < y then z else y) = low) (hh : (if z > y then z else y) = high)
    (bx : -9223372036854775807 ≤ x ∧ x ≤ 9223372036854775807) (hyb : -9223372036854775807 ≤ y ∧ y ≤ 9223372036854775807)
    (bl : -9223372036854775807 ≤ low ∧ low ≤ 9223372036854775807) (bh : -9223372036854775807 ≤ high ∧ high ≤ 9223372036854775807)
    (bt : -9223372036854775807 ≤ t ∧ t ≤ 9223372036854775807) (bq : -9223372036854775807 ≤ q ∧ q ≤ 9223372036854775807)
    (t1 : Hid (toward x y a2 = t)) (t2 : Hid (toward (-x) (-y) a2 = -t)) (q1 : Hid (clamp x low high = q)) (q2 : Hid (clamp (-x) (-high) (-low) = -q)) :
    Calls Try.prog 6 #[.int .i64 a0, .int .i64 a1, .int .i64 a2] w fun e w' => e = .returned (.bool true) ∧ Grown w w' := by
  have ix := Lib.hid (i64_small bx)
  have iy := Lib.hid (i64_small hyb)
  have nx := Lib.hid (i64_neg bx)
  have ny := Lib.hid (i64_neg hyb)
  obtain ⟨x1, x2⟩ := bx
  obtain ⟨y1, y2⟩ := hyb
  obtain ⟨l1, l2⟩ := bl
  obtain ⟨h1, h2⟩ := bh
  obtain ⟨r1, r2⟩ := bt
  obtain ⟨q3, q4⟩ := bq
  go_enter Try.func6, Try.ntmps6
  go_wp2_with fail
  refine (shown_any _).mono ?_; rintro e w' ⟨rfl, rfl⟩
  go_wp2_with fail
  clear hx hy hz hl hh
  (with_reducible refine (toward_is (-x) (-y) a2 (-t) _ nx.out ny.out b2.out t2.out).mono ?_); rintro e w' ⟨rfl, rfl⟩
  go_wp2_with fail
  (with_reducible refine (toward_is x y a2 t _ ix.out iy.out b2.out t1.out).mono ?_); rintro e w' ⟨rfl, rfl⟩
  go_wp2_with fail
  (with_reducible refine (clamp_is (-x) (-high) (-low) (-q) _ q2.out).mono ?_); rintro e w' ⟨rfl, rfl⟩
  go_wp2_with fail
  (with_reducible refine (clamp_is x low high q _ q1.out).mono ?_); rintro e w' ⟨rfl, rfl⟩
  go_wp2
  go_ret
  exact ⟨rfl, by repeat (first | exact Grown.refl _ | apply Grown.drew | apply Grown.alloc)⟩

theorem numMirrors (a0 : Int) (a1 : Int) (a2 : Int) (w0 : (Lit.int .i64 a0).wf = true) (w1 : (Lit.int .i64 a1).wf = true) (w2 : (Lit.int .i64 a2).wf = true) (w : World) :
    Calls Try.prog 6 #[.int .i64 a0, .int .i64 a1, .int .i64 a2] w fun e w' => e = .returned (.bool true) ∧ Grown w w' := by
  obtain ⟨x, hx⟩ : ∃ x, (if (-9223372036854775807) > a0 then -9223372036854775807 else a0) = x := ⟨_, rfl⟩
  obtain ⟨y, hy⟩ : ∃ x, (if (-9223372036854775807) > a1 then -9223372036854775807 else a1) = x := ⟨_, rfl⟩
  obtain ⟨z, hz⟩ : ∃ x, (if (-9223372036854775807) > a2 then -9223372036854775807 else a2) = x := ⟨_, rfl⟩
  obtain ⟨low, hl⟩ : ∃ x, (if z < y then z else y) = x := ⟨_, rfl⟩
  obtain ⟨high, hh⟩ : ∃ x, (if z > y then z else y) = x := ⟨_, rfl⟩
  have bx := top_within _ _ (i64_wf w0) hx
  have hyb := top_within _ _ (i64_wf w1) hy
  have bz := top_within _ _ (i64_wf w2) hz
  have hlh : low ≤ high ∧ (-9223372036854775807 ≤ low ∧ low ≤ 9223372036854775807) ∧ (-9223372036854775807 ≤ high ∧ high ≤ 9223372036854775807) := by
    subst hl hh; split <;> split <;> omega
  exact mirrors_core a0 a1 a2 x y z low high _ _ w (Lib.hid (i64_wf w2)) hx hy hz hl hh bx hyb hlh.2.1 hlh.2.2 (toward_within x y a2 _ bx hyb) (clamp_within x low high _ bx hlh.2.1 hlh.2.2)
    (Lib.hid rfl) (Lib.hid (toward_neg x y a2)) (Lib.hid rfl) (Lib.hid (clamp_neg x low high hlh.1))
end Go.Proofs.Ytofhhdnllloliaa.walks
