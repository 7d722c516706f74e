/-
  THE CONTRACT OF the reference's Put.
-/
import Derived.Test.YtfgneepilofkeaaFrame
import Derived.BigQuiet
import Derived.Deep.QuietTactic
namespace Go.Proofs.Ytfgneepilofkeaa.frame
open Go.RowKit Go.Proofs.Ytfgneepilofkeaa.octets Go.Proofs.Ytfgneepilofkeaa.crc
set_option linter.unusedVariables false
set_option linter.unusedSimpArgs false

theorem rput_long (A : Option Addr) (n c : Nat) (w : World) (hn : 32 < n) :
    Calls Try.prog 16 #[.slice A n c] w fun e w' => e = .returned (.tuple #[.slice none 0 0, .int .i64 1]) ∧ w = w' := by
  have hn' : (32 : Int) < (n : Int) := by omega
  go_enter Try.func16, Try.ntmps16
  go_wp2
  go_ret2
  exact ⟨rfl, rfl⟩
theorem rput_parts (l : List UInt8) (h : l.length ≤ 32) : [165, 1, UInt8.ofNat l.length] ++ l ++ tailB (sumL 65535 (headB l)) = putB l := by simp [putB, headB]
set_option maxRecDepth 100000 in
set_option maxHeartbeats 1000000 in
theorem rput_ok (A : Option Addr) (n c : Nat) (l : List UInt8) (w : World) (hl : l.length = n) (hn : n ≤ 32) (hs : Seen w A l) :
    Calls Try.prog 16 #[.slice A n c] w fun e w' => ∃ v, e = .returned (.tuple #[v, .int .i64 0]) ∧ Own w' w.heap.size v (putB l) ∧ Below w.heap.size w w' := by
  obtain ⟨s, hsum⟩ : ∃ s, sumL 65535 (headB l) = s := ⟨_, rfl⟩
  have hs64 : s < 65536 := by rw [← hsum]; exact sumL_lt _ (by decide)
  have hput := rput_parts l (by omega)
  rw [hsum] at hput
  have hn' : (n : Int) ≤ 32 := by omega
  have e0 : (UInt8.ofNat n).toNat = n := by rw [UInt8.toNat_ofNat']; omega
  have hlit : Held (w.alloc (.cells #[.int .u8 165, .int .u8 1, .int .u8 (n : Int)] 5)) w.heap.size 3 [165, 1, UInt8.ofNat n] := Held.lit w [165, 1, UInt8.ofNat n] _ (by simp only [vals, List.map_cons, List.map_nil, e0]; rfl) (by simp [maxLen])
  have hs1 := hs.alloc (.cells #[.int .u8 165, .int .u8 1, .int .u8 (n : Int)] 5)
  have hh : (([165, 1, UInt8.ofNat n] : List UInt8) ++ l).drop 1 = headB l := by rw [← hl]; rfl
  have hhl : (([165, 1, UInt8.ofNat n] : List UInt8) ++ l).length = n + 3 := by simp [hl]
  rw [hl] at hput
  generalize hR : ([165, 1, UInt8.ofNat n] : List UInt8) ++ l = R at hput hh hhl
  replace hR := Lib.hid hR
  replace hl := Lib.hid hl
  replace hput := Lib.hid hput
  replace hsum := Lib.hid hsum
  replace hh := Lib.hid hh
  replace hhl := Lib.hid hhl
  clear e0
  go_enter Try.func16, Try.ntmps16
  go_wp2_with (at_builtin; refine wpList_append_own_any _ rfl (.tmp 12) (.tmp 13) rfl w.heap.size _ [165, 1, UInt8.ofNat n] rfl (hlit.own (Nat.le_refl _)) A n c rfl l hl.out hs1 (by rw [hl.out]; simp; omega) (by simp) ?_)
  intro v1 w1 hown1 hg1 hat1
  replace hown1 : Own w1 w.heap.size v1 R := by rw [← hR.out]; exact hown1
  have hw1 := (below_new w (.cells #[.int .u8 165, .int .u8 1, .int .u8 (n : Int)] 5)).grown hg1 (by simp) (by intro g hg; simp [Value.ownBlock] at hg; omega)
  obtain ⟨b, cb, rfl, hbb, hheld⟩ := hown1.held (by rw [hhl.out]; omega)
  rw [hhl.out]
  obtain ⟨A', c', k1, hc', hs'⟩ := cut_l (some ⟨b, 0, none⟩) (n + 3) cb 1 (by omega) (by have := hheld.1; rw [hhl.out] at this; exact this) 1 rfl
  have hs2 := hs' _ _ hhl.out hheld.seen
  rw [hh.out] at hs2
  have hl2 : Hid ((headB l).length = n + 3 - 1) := Lib.hid (by rw [headB_len, hl.out]; omega)
  have hz1 := hw1.size
  clear hs'
  go_wp2_with fail
  refine (rsum_at A' (n + 3 - 1) c' (headB l) s _ hl2.out (by omega) hs2 hsum.out).mono ?_
  rintro e w2 ⟨rfl, rfl⟩
  have hlit2 : Seen (w1.alloc (.cells #[.int .u8 ((s : Int) / 256), .int .u8 ((s : Int) % 256)] 5)) (some ⟨w1.heap.size, 0, none⟩) (tailB s) := by
    refine Arr.seen (Arr.new_at w1 _ _ _ ?_)
    have q1 : (UInt8.ofNat (s / 256)).toNat = s / 256 := by rw [UInt8.toNat_ofNat']; omega
    have q2 : (UInt8.ofNat (s % 256)).toNat = s % 256 := by rw [UInt8.toNat_ofNat']; omega
    simp only [tailB, vals, List.map_cons, List.map_nil, q1, q2]
    rfl
  have hheld3 := hheld.alloc (.cells #[.int .u8 ((s : Int) / 256), .int .u8 ((s : Int) % 256)] 5)
  have hw3 := hw1.alloc hz1 (.cells #[.int .u8 ((s : Int) / 256), .int .u8 ((s : Int) % 256)] 5)
  have hz3 := hw3.size
  have hown3 := hheld3.own hbb
  rw [hhl.out] at hown3
  clear hs2 hs1 hlit hg1 hat1 hw1 hheld
  go_wp2_with (at_builtin; refine wpList_append_own_any _ rfl (.tmp 18) (.tmp 25) rfl w.heap.size _ R rfl hown3 (some ⟨w1.heap.size, 0, none⟩) 2 2 rfl (tailB s) rfl hlit2 (by rw [hhl.out]; simp [tailB]; omega) hz3 ?_)
  intro v4 w4 hown4 hg4 hat4
  rw [hput.out] at hown4
  have hw4 := hown3.grew hw3 (Nat.le_refl _) hz3 hg4
  go_wp2
  go_ret2
  exact ⟨_, rfl, hown4, hw4⟩
end Go.Proofs.Ytfgneepilofkeaa.frame
