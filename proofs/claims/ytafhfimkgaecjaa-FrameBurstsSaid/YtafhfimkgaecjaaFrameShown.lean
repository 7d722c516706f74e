/-
  THE HEAD OF THE STATEMENTS OF frame, and what they cut of what they are handed.
-/
import Derived.Test.YtafhfimkgaecjaaFrameNext
import Derived.Test.YtafhfimkgaecjaaFramePut
import Derived.BigQuiet
import Derived.Deep.QuietTactic
import Derived.Lib.SlBytesConst
namespace Go.Proofs.Ytafhfimkgaecjaa.frame
open Go.RowKit Go.Proofs.Ytafhfimkgaecjaa.octets Go.Proofs.Ytafhfimkgaecjaa.crc Go.Proofs.Ytafhfimkgaecjaa.given
set_option linter.unusedVariables false
set_option linter.unusedSimpArgs false

set_option maxHeartbeats 400000 in
theorem few_ok (A : Option Addr) (n cap m : Nat) (w : World) (hc : n ≤ cap) (hm : m = min n 100) :
    Calls Try.prog 9 #[.slice A n cap] w fun e w' => e = .returned (.slice A m cap) ∧ w = w' := by
  have hs := slice_h A n cap m (by omega)
  have em : min (n : Int) 100 = (m : Int) := by omega
  clear hm
  go_enter Try.func9, Try.ntmps9
  go_wp2
  go_ret
  exact ⟨rfl, rfl⟩
set_option maxHeartbeats 400000 in
theorem body_ok (A : Option Addr) (n cap m : Nat) (w : World) (hc : n ≤ cap) (hm : m = min n 32) :
    Calls Try.prog 15 #[.slice A n cap] w fun e w' => e = .returned (.slice A m cap) ∧ w = w' := by
  have hs := slice_h A n cap m (by omega)
  have em : min (n : Int) 32 = (m : Int) := by omega
  clear hm
  go_enter Try.func15, Try.ntmps15
  go_wp2
  go_ret
  exact ⟨rfl, rfl⟩

theorem fv_cells {w : World} {g : Nat} {k s c : Int} {b : Value} (h : Arr w g (fv k s c b)) : w.cell? ⟨g, 0, none⟩ = some (.int .i64 k) ∧ w.cell? ⟨g, 1, none⟩ = some (.int .i64 s) ∧ w.cell? ⟨g, 2, none⟩ = some (.int .i64 c) ∧ w.cell? ⟨g, 3, none⟩ = some b :=
  ⟨h.cell rfl, h.cell rfl, h.cell rfl, h.cell rfl⟩
/-- Next at bytes of which it is known what it tells -/
theorem next_at (A : Option Addr) (n c : Nat) (l : List UInt8) (f : F) (w : World) (hl : l.length = n) (hc : n ≤ c) (hn : n ≤ 1048576) (hs : Seen w A l) (hf : nextB l = f) :
    Calls Try.prog 13 #[.slice A n c] w fun e w' => ∃ B cb, e = .returned (.agg (fv f.kind f.size f.code (.slice B f.body.length cb)).toArray) ∧ Own w' w.heap.size (.slice B f.body.length cb) f.body ∧ Below w.heap.size w w' := by
  subst hf
  refine (next_ok A n c l w hl hc hn hs).mono ?_
  rintro e w' ⟨v, rfl, ⟨B, cb, rfl, h⟩, hb⟩
  exact ⟨B, cb, rfl, h, hb⟩

theorem seen_is {w : World} {base : Nat} {A : Option Addr} {n c : Nat} {l : List UInt8} (h : Own w base (.slice A n c) l) : Seen w A l := by
  obtain ⟨A', c', e, hs⟩ := h.seen
  injection e with e1 _ _
  subst e1
  exact hs
/-- a slice of the call's own, as the calls take it -/
theorem own_cap {w : World} {base : Nat} {v : Value} {l : List UInt8} (h : Own w base v l) {k : Nat} (hk : l.length = k) : ∃ A c, v = .slice A k c ∧ Seen w A l ∧ k ≤ c := by
  subst hk
  rcases h.2 with ⟨rfl, h0⟩ | ⟨g, cap, cur, rfl, hg, hh, hnc, hr⟩
  · rw [h0]
    exact ⟨none, 0, rfl, seen_is (n := 0) (c := 0) (base := base) h, Nat.le_refl _⟩
  · exact ⟨_, cap, rfl, seen_is h, hnc⟩

set_option maxRecDepth 100000 in
set_option maxHeartbeats 1000000 in
theorem shown_any (w : World) : Calls Try.prog 8 #[] w fun e w' => e = .returned (.bool true) ∧ Below w.heap.size w w' := by
  have hs1 : Seen (w.alloc (.cells #[.int .u8 1, .int .u8 2, .int .u8 165] 5)) (some ⟨w.heap.size, 0, none⟩) [1, 2, 165] := (Held.lit w [1, 2, 165] _ rfl (by simp [maxLen])).seen
  have hw1 := below_new w (.cells #[.int .u8 1, .int .u8 2, .int .u8 165] 5)
  go_enter Try.func8, Try.ntmps8
  go_wp2_with fail
  refine (next_at (some ⟨w.heap.size, 0, none⟩) 3 3 [1, 2, 165] ⟨1, 2, 0, []⟩ _ rfl (by decide) (by decide) hs1 rfl).mono ?_
  rintro e w2 ⟨B, cb, rfl, -, hb2⟩
  have hw2 := hw1.trans (hb2.mono hw1.size)
  clear hs1 hw1 hb2
  have hF2 := new_zf w2 30
  go_wp2_with (guard_target =~ wpList _ _ _ (Oper.mk _ (Op.store _ _ _) _ _ _ _ :: _) _ _; refine wpList_store_arr (cs' := fv 1 2 0 (.slice B 0 cb)) 4 rfl rfl rfl rfl hF2 (by kernel_rfl) rfl rfl (fv_one _ _ _ _ _ _) ?_)
  intro w3 hF3 ho3 hb3 hs3
  have hw3 := (hw2.alloc hw2.size (.cells #[.int .i64 0, .int .i64 0, .int .i64 0, .slice none 0 0] 30)).trans (hb3.mono hw2.size)
  generalize w2.heap.size = g at hF3 ⊢
  clear hw2 hF2 ho3 hb3 hs3
  have hs4 : Seen (w3.alloc (.cells #[.int .u8 165, .int .u8 2] 5)) (some ⟨w3.heap.size, 0, none⟩) [165, 2] := (Held.lit w3 [165, 2] _ rfl (by simp [maxLen])).seen
  have hw4 := hw3.alloc hw3.size (.cells #[.int .u8 165, .int .u8 2] 5)
  have hF4 := hF3.alloc (.cells #[.int .u8 165, .int .u8 2] 5)
  go_wp2_with fail
  refine (next_at (some ⟨w3.heap.size, 0, none⟩) 2 2 [165, 2] (rej 10) _ rfl (by decide) (by decide) hs4 rfl).mono ?_
  rintro e w5 ⟨C, cc, rfl, -, hb5⟩
  have hw5 := hw4.trans (hb5.mono hw4.size)
  have hF5 := hF4.since hb5
  have hlt := hF5.lt
  clear hs4 hw4 hb5 hF4
  have hG5 := new_zf w5 30
  go_wp2_with (guard_target =~ wpList _ _ _ (Oper.mk _ (Op.store _ _ _) _ _ _ _ :: _) _ _; refine wpList_store_arr (cs' := fv 3 1 10 (.slice C 0 cc)) 4 rfl rfl rfl rfl hG5 (by kernel_rfl) rfl rfl (fv_one _ _ _ _ _ _) ?_)
  intro w6 hG6 ho6 hb6 hs6
  have hw6 := (hw5.alloc hw5.size (.cells #[.int .i64 0, .int .i64 0, .int .i64 0, .slice none 0 0] 30)).trans (hb6.mono hw5.size)
  have hF6 := (hF5.alloc (.cells #[.int .i64 0, .int .i64 0, .int .i64 0, .slice none 0 0] 30)).of_block (ho6 _ (by omega))
  obtain ⟨a0, a1, a2, a3⟩ := fv_cells hF6
  obtain ⟨b0, b1, b2, b3⟩ := fv_cells hG6
  clear hF5 hw5 hG5 ho6 hb6 hs6 hG6 hF6 hF3 hw3
  go_wp2
  go_ret
  exact ⟨rfl, hw6⟩
end Go.Proofs.Ytafhfimkgaecjaa.frame
