/-
  CONTRACTS OF msg's reference: Fit, FitReply.
-/
import Derived.Test.YtmibgmcgicphoaaMsgNamed
namespace Go.Proofs.Ytmibgmcgicphoaa.msg
open Go.RowKit Go.Proofs.Ytmibgmcgicphoaa.octets Go.Proofs.Ytmibgmcgicphoaa.pack
set_option linter.unusedVariables false
set_option linter.unusedSimpArgs false

theorem tmod_is (k n : Int) (hn : 0 < n) : k.tmod n = if 0 ≤ k then k % n else -((-k) % n) := by
  split
  · rename_i h
    exact Int.tmod_eq_emod_of_nonneg h
  · rename_i h
    have := Int.tmod_eq_emod_of_nonneg (a := -k) (b := n) (by omega)
    rw [Int.neg_tmod] at this
    omega
theorem tm11 (k : Int) : (wrap64 (k.tmod 11 + 11)).tmod 11 = k % 11 := by
  have h1 := tmod_is k 11 (by decide)
  have h2 : wrap64 (k.tmod 11 + 11) = k.tmod 11 + 11 := by unfold wrap64; split at h1 <;> omega
  rw [h2, Int.tmod_eq_emod_of_nonneg (by split at h1 <;> omega), h1]
  split <;> omega
theorem tm5 (k : Int) : (wrap64 (k.tmod 5 + 5)).tmod 5 = k % 5 := by
  have h1 := tmod_is k 5 (by decide)
  have h2 : wrap64 (k.tmod 5 + 5) = k.tmod 5 + 5 := by unfold wrap64; split at h1 <;> omega
  rw [h2, Int.tmod_eq_emod_of_nonneg (by split at h1 <;> omega), h1]
  split <;> omega
theorem tm3 (k : Int) : (wrap64 (k.tmod 3 + 3)).tmod 3 = k % 3 := by
  have h1 := tmod_is k 3 (by decide)
  have h2 : wrap64 (k.tmod 3 + 3) = k.tmod 3 + 3 := by unfold wrap64; split at h1 <;> omega
  rw [h2, Int.tmod_eq_emod_of_nonneg (by split at h1 <;> omega), h1]
  split <;> omega
theorem wr11 (k : Int) : wrap64 (1 + k % 11) = 1 + k % 11 := by unfold wrap64; omega
theorem wr3 (k : Int) : wrap64 (1 + k % 3) = 1 + k % 3 := by unfold wrap64; omega
theorem wr129 (k : Int) : wrap64 (129 + k % 8) = 129 + k % 8 := by unfold wrap64; omega
theorem wrx (k : Int) : wrap64 (k % 65536 - 32768) = k % 65536 - 32768 := by unfold wrap64; omega
theorem and_32 (x : Int) : bits BinOp.and IntKind.i64 x 4294967295 = x % 4294967296 := and_ones x 32 (by decide)
theorem and_2 (x : Int) : bits BinOp.and IntKind.i64 x 3 = x % 4 := and_ones x 2 (by decide)
theorem and_3 (x : Int) : bits BinOp.and IntKind.i64 x 7 = x % 8 := and_ones x 3 (by decide)
theorem and_8 (x : Int) : bits BinOp.and IntKind.i64 x 255 = x % 256 := and_ones x 8 (by decide)
theorem arr_snd (w : World) (o1 : Obj) (cs : List Value) (C : Array Value) (t : TypeId) (e : C = cs.toArray) : Arr ((w.alloc o1).alloc (.cells C t)) (w.heap.size + 1) cs := by
  have := Arr.new_at (w.alloc o1) cs C t e
  rw [World.size_alloc] at this
  exact this
theorem below2 (w : World) (o1 o2 : Obj) : Below w.heap.size w ((w.alloc o1).alloc o2) := (below_new w o1).alloc (by simp) o2
theorem box_cells (w : World) (cs : List Value) (C : Array Value) (t : TypeId) (o : Obj) (e : C = cs.toArray) : Arr ((w.alloc (.cells C t)).alloc o) w.heap.size cs := (Arr.new_at w cs C t e).alloc o

set_option maxRecDepth 100000 in
set_option maxHeartbeats 2000000 in
theorem fitM_ok (m : M) (w : World) : Calls Try.prog 19 #[.agg (mv m).toArray] w fun e w' => e = .returned (.agg (mv (fitM m)).toArray) ∧ Below w.heap.size w w' := by
  obtain ⟨kind, seq, role, to_, epoch, mode, cls, now, x0, x1, x2, x3⟩ := m
  simp only [mv]
  go_enter Try.func19, Try.ntmps19
  go_wp2
  simp only [tm11, tm5, tm3, wr11, wr3, and_32, and_2, and_16]
  go_loopw [3] (fun t W => ∃ (i : Nat) (y0 y1 y2 y3 : Int), t = .int .i64 i ∧ W = (w.alloc (.cells #[.int .i64 (1 + kind % 11), .int .i64 (seq % 4294967296), .int .i64 (role % 4), .int .i64 (to_ % 5), .int .i64 (epoch % 65536), .int .i64 (mode % 5), .int .i64 (1 + cls % 3), .bool now, .int .i64 y0, .int .i64 y1, .int .i64 y2, .int .i64 y3] 24)).alloc (.cells #[.int .i64 0, .int .i64 0, .int .i64 0, .int .i64 0, .int .i64 0, .int .i64 0, .int .i64 0, .bool false, .int .i64 0, .int .i64 0, .int .i64 0, .int .i64 0] 24) ∧
    ((i = 0 ∧ y0 = x0 ∧ y1 = x1 ∧ y2 = x2 ∧ y3 = x3) ∨ (i = 1 ∧ y0 = x0 % 65536 - 32768 ∧ y1 = x1 ∧ y2 = x2 ∧ y3 = x3) ∨ (i = 2 ∧ y0 = x0 % 65536 - 32768 ∧ y1 = x1 % 65536 - 32768 ∧ y2 = x2 ∧ y3 = x3) ∨
      (i = 3 ∧ y0 = x0 % 65536 - 32768 ∧ y1 = x1 % 65536 - 32768 ∧ y2 = x2 % 65536 - 32768 ∧ y3 = x3) ∨ (i = 4 ∧ y0 = x0 % 65536 - 32768 ∧ y1 = x1 % 65536 - 32768 ∧ y2 = x2 % 65536 - 32768 ∧ y3 = x3 % 65536 - 32768))) (fun t _ => 4 - (intOf t).toNat)
  case atStart => exact ⟨0, x0, x1, x2, x3, rfl, rfl, .inl ⟨rfl, rfl, rfl, rfl, rfl⟩⟩
  case round =>
    obtain ⟨i, y0, y1, y2, y3, rfl, rfl, ⟨rfl, rfl, rfl, rfl, rfl⟩ | ⟨rfl, rfl, rfl, rfl, rfl⟩ | ⟨rfl, rfl, rfl, rfl, rfl⟩ | ⟨rfl, rfl, rfl, rfl, rfl⟩ | ⟨rfl, rfl, rfl, rfl, rfl⟩⟩ := hrel
    · simp only [show ((0 : Nat) : Int) = 0 from rfl]
      go_wp2
      simp only [and_16, wrx]
      go_roundw
      case rel => exact ⟨1, _, _, _, _, rfl, rfl, .inr (.inl ⟨rfl, rfl, rfl, rfl, rfl⟩)⟩
      case measure => simp [intOf]
    · simp only [show ((1 : Nat) : Int) = 1 from rfl]
      go_wp2
      simp only [and_16, wrx]
      go_roundw
      case rel => exact ⟨2, _, _, _, _, rfl, rfl, .inr (.inr (.inl ⟨rfl, rfl, rfl, rfl, rfl⟩))⟩
      case measure => simp [intOf]
    · simp only [show ((2 : Nat) : Int) = 2 from rfl]
      go_wp2
      simp only [and_16, wrx]
      go_roundw
      case rel => exact ⟨3, _, _, _, _, rfl, rfl, .inr (.inr (.inr (.inl ⟨rfl, rfl, rfl, rfl, rfl⟩)))⟩
      case measure => simp [intOf]
    · simp only [show ((3 : Nat) : Int) = 3 from rfl]
      go_wp2
      simp only [and_16, wrx]
      go_roundw
      case rel => exact ⟨4, _, _, _, _, rfl, rfl, .inr (.inr (.inr (.inr ⟨rfl, rfl, rfl, rfl, rfl⟩)))⟩
      case measure => simp [intOf]
    · simp only [show ((4 : Nat) : Int) = 4 from rfl]
      go_wp2_with fail
      refine (named_ok ⟨1 + kind % 11, seq % 4294967296, role % 4, to_ % 5, epoch % 65536, mode % 5, 1 + cls % 3, now, x0 % 65536 - 32768, x1 % 65536 - 32768, x2 % 65536 - 32768, x3 % 65536 - 32768⟩ _).mono ?_
      rintro e w2 ⟨rfl, hb2⟩
      have hA2 := (arr_snd w _ (mv zM) _ 24 rfl).since hb2
      have hw2 := (below2 w _ _).trans (hb2.mono (below2 w _ _).size)
      clear hb2
      go_wp2_with (guard_target =~ wpList _ _ _ (Oper.mk _ (Op.store _ _ _) _ _ _ _ :: _) _ _; refine wpList_store_arr (cs' := mv (namedM ⟨1 + kind % 11, seq % 4294967296, role % 4, to_ % 5, epoch % 65536, mode % 5, 1 + cls % 3, now, x0 % 65536 - 32768, x1 % 65536 - 32768, x2 % 65536 - 32768, x3 % 65536 - 32768⟩)) 12 rfl rfl rfl rfl hA2 (by kernel_rfl) rfl rfl (mv_one _) ?_)
      intro w3 hA3 ho3 hb3 hs3
      have hw3 := hw2.trans (hb3.mono (Nat.le_succ _))
      go_wp2
      exact ret_arr rfl (w.heap.size + 1) _ _ rfl hA3 Try.underlying24 rfl (by kernel_rfl) rfl ⟨rfl, hw3⟩
end Go.Proofs.Ytmibgmcgicphoaa.msg
