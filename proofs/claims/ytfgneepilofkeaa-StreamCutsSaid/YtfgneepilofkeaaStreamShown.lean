/-
  THE HEAD OF THE STATEMENTS OF stream.
-/
import Derived.Test.YtfgneepilofkeaaStreamPieces
namespace Go.Proofs.Ytfgneepilofkeaa.stream
open Go.RowKit Go.Proofs.Ytfgneepilofkeaa.octets Go.Proofs.Ytfgneepilofkeaa.frame
set_option linter.unusedVariables false
set_option linter.unusedSimpArgs false

theorem ex_a : itemsB [7, 165] = [] ∧ restB [7, 165] = [165] := by
  have e : nextB [7, 165] = ⟨1, 1, 0, []⟩ := rfl
  have e2 : nextB [165] = wait := rfl
  have h1 := items_step (l := [7, 165]) (by rw [e]; simp)
  have h2 := rest_step (l := [7, 165]) (by rw [e]; simp)
  rw [e] at h1 h2
  rw [h1, h2]
  exact ⟨by rw [show ([7, 165] : List UInt8).drop (F.mk 1 1 0 []).size = [165] from rfl, items_wait (by rw [e2]; rfl)]; rfl, by rw [show ([7, 165] : List UInt8).drop (F.mk 1 1 0 []).size = [165] from rfl, rest_wait (by rw [e2]; rfl)]⟩
theorem ex_b : itemsB ([165] ++ [2, 165]) = [⟨10, []⟩] ∧ restB ([165] ++ [2, 165]) = [165] := by
  have e : nextB ([165] ++ [2, 165]) = rej 10 := rfl
  have e1 : nextB [2, 165] = ⟨1, 1, 0, []⟩ := rfl
  have e2 : nextB [165] = wait := rfl
  have h1 := items_step (l := [165] ++ [2, 165]) (by rw [e]; simp [rej])
  have h2 := rest_step (l := [165] ++ [2, 165]) (by rw [e]; simp [rej])
  have h3 := items_step (l := [2, 165]) (by rw [e1]; simp)
  have h4 := rest_step (l := [2, 165]) (by rw [e1]; simp)
  rw [e, show ([165] ++ [2, 165] : List UInt8).drop (rej 10).size = [2, 165] from rfl] at h1 h2
  rw [e1, show ([2, 165] : List UInt8).drop (F.mk 1 1 0 []).size = [165] from rfl] at h3 h4
  rw [h1, h2, h3, h4, items_wait (l := [165]) (by rw [e2]; rfl), rest_wait (l := [165]) (by rw [e2]; rfl)]
  exact ⟨rfl, rfl⟩

set_option maxRecDepth 100000 in
set_option maxHeartbeats 1000000 in
theorem shown_ok (w : World) : Calls Try.prog 8 #[] w fun e w' => e = .returned (.bool true) ∧ Below w.heap.size w w' := by
  have xa := ex_a
  have xb := ex_b
  replace xa := Lib.hid xa
  replace xb := Lib.hid xb
  go_enter Try.func8, Try.ntmps8
  go_wp2_with fail
  refine (new_ok _).mono ?_
  rintro e w1 ⟨g, rfl, hS1, hw1⟩
  have hl2 := (Held.lit w1 [7, 165] _ rfl (by simp [maxLen])).seen
  have hS2 := hS1.alloc (.cells #[.int .u8 7, .int .u8 165] 5)
  have hw2 := hw1.alloc hw1.size (.cells #[.int .u8 7, .int .u8 165] 5)
  clear hS1 hw1
  go_wp2_with fail
  refine (take_ok g _ [] [7, 165] (some ⟨w1.heap.size, 0, none⟩) 2 2 _ hS2 (by decide) rfl (by decide) (by decide) hl2).mono ?_
  rintro e w3 ⟨va, rfl, hI3, hS3, hg3⟩
  rw [List.nil_append, xa.out.1] at hI3
  rw [List.nil_append, xa.out.2] at hS3
  have hw3 := hw2.grown hg3 hw2.size fun k e => by cases e; exact hS2.1
  obtain ⟨Aa, ca, rfl, -, -⟩ := hI3.src
  have hl4 := (Held.lit w3 [2, 165] _ rfl (by simp [maxLen])).seen
  have hS4 := hS3.alloc (.cells #[.int .u8 2, .int .u8 165] 5)
  have hw4 := hw3.alloc hw3.size (.cells #[.int .u8 2, .int .u8 165] 5)
  have hB4 : w.heap.size ≤ g := hS2.1
  clear hS3 hw3 hI3 hg3 hS2 hw2 hl2
  go_wp2_with fail
  refine (take_ok g _ [165] [2, 165] (some ⟨w3.heap.size, 0, none⟩) 2 2 _ hS4 (by decide) rfl (by decide) (by decide) hl4).mono ?_
  rintro e w5 ⟨vb, rfl, hI5, hS5, hg5⟩
  rw [xb.out.1] at hI5
  rw [xb.out.2] at hS5
  have hw5 := hw4.grown hg5 hw4.size fun k e => by cases e; exact hB4
  obtain ⟨Ab, cb, rfl, hcb, hs5⟩ := hI5.src
  obtain ⟨b, o, A', c', rfl, hb, x1, x2, -⟩ := hs5.at_ (i := 0) (by decide)
  rw [Nat.zero_mul, Nat.add_zero] at x1
  have x1 : w5.cell? ⟨b, o, none⟩ = some (.int .i64 10) := x1
  simp only [List.length_singleton] at hcb ⊢
  clear hI5 hs5 x2 hg5 hS4 hw4 hl4 xa xb
  go_wp2_with fail
  (with_reducible refine (rest_ok g 1 _ [165] _ hS5 rfl).mono ?_)
  rintro e w6 ⟨rfl, rfl⟩
  go_wp2
  go_ret
  exact ⟨rfl, hw5⟩
end Go.Proofs.Ytfgneepilofkeaa.stream
