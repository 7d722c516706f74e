/-
  WHAT frame STANDS ON: pieces of slices, the library's IndexByte and Clone, a Found in memory; reject, skip, summed.
-/
import Derived.Test.YtfgneepilofkeaaFrameMath
import Derived.Test.YtfgneepilofkeaaMore
import Derived.Test.YtfgneepilofkeaaCrc
import Derived.Lib.BytesEntry
import Derived.Laws.Cover3
import Derived.Laws.Externs
import Derived.ChangeKeysEq
import Derived.Lib.SliceRun
namespace Go.Proofs.Ytfgneepilofkeaa.frame
open Go.RowKit Go.Proofs.Ytfgneepilofkeaa.octets Go.Proofs.Ytfgneepilofkeaa.crc
set_option linter.unusedVariables false
set_option linter.unusedSimpArgs false

theorem elem_u8 : (Try.prog).elem 23 = 5 := by simp [Program.elem, Try.underlying23]
theorem under_u8 : (Try.prog).underlying 23 = some (.slice ((Try.prog).elem 23)) := by rw [elem_u8]; exact Try.underlying23
theorem Seen.add {w : World} {A : Option Addr} {l : List UInt8} (h : Seen w A l) (i : Nat) : Seen w (A.map (·.add i)) (l.drop i) := by
  intro hn
  have hi : i < l.length := by
    rcases Nat.lt_or_ge i l.length with h0 | h0
    · exact h0
    · exact absurd (List.drop_of_length_le h0) hn
  obtain ⟨b, o, rfl, hb, hc⟩ := h.at_ hi
  refine ⟨b, o + i, ?_, hb, fun j hj => ?_⟩
  · simp only [Option.map_some, Addr.add]
    split
    · rename_i h0; subst h0; rfl
    · rfl
  · have hj' : i + j < l.length := by simp at hj; omega
    rw [Nat.add_assoc, hc _ hj', List.getElem_drop]
/-- 'b[i:j]' -/
theorem cut_lh (A : Option Addr) (n c i j : Nat) (hij : i ≤ j) (hj : j ≤ c) (x y : Int) (hx : x = i) (hy : y = j) : ∃ A' c', (∀ W, (Instr.slice 23 (.slice A n c) (some (.int .i64 x)) (some (.int .i64 y)) none).run Try.prog W = .ok (.slice A' (j - i) c') W) ∧ j - i ≤ c' ∧
    ∀ (W : World) (l : List UInt8), Seen W A l → Seen W A' ((l.drop i).take (j - i)) := by
  subst hx hy
  by_cases h0 : c = i
  · refine ⟨A, c - i, fun W => ?_, by omega, fun W l _ => ?_⟩
    · rw [run_slice_lh W _ _ _ _ under_u8 .i64 .i64 _ _ (by omega) (by omega) (by omega), elem_u8, size_u8]
      simp [Result.andThen, sliced, h0]
    · rw [show j - i = 0 by omega, List.take_zero]
      exact Seen.none_ _ _
  · refine ⟨A.map (·.add i), c - i, fun W => ?_, by omega, fun W l h => (Seen.add h i).take _⟩
    rw [run_slice_lh W _ _ _ _ under_u8 .i64 .i64 _ _ (by omega) (by omega) (by omega), elem_u8, size_u8]
    simp [Result.andThen, sliced, h0]
/-- 'b[i:]' -/
theorem cut_l (A : Option Addr) (n c i : Nat) (hi : i ≤ n) (hn : n ≤ c) (x : Int) (hx : x = i) : ∃ A' c', (∀ W, (Instr.slice 23 (.slice A n c) (some (.int .i64 x)) none none).run Try.prog W = .ok (.slice A' (n - i) c') W) ∧ n - i ≤ c' ∧
    ∀ (W : World) (l : List UInt8), l.length = n → Seen W A l → Seen W A' (l.drop i) := by
  subst hx
  by_cases h0 : c = i
  · refine ⟨A, c - i, fun W => ?_, by omega, fun W l hl _ => ?_⟩
    · rw [run_slice_l W _ _ _ _ under_u8 .i64 _ (by omega) (by omega), elem_u8, size_u8]
      simp [Result.andThen, sliced, h0]
    · rw [List.drop_of_length_le (by omega)]
      exact Seen.none_ _ _
  · refine ⟨A.map (·.add i), c - i, fun W => ?_, by omega, fun W l _ h => Seen.add h i⟩
    rw [run_slice_l W _ _ _ _ under_u8 .i64 _ (by omega) (by omega), elem_u8, size_u8]
    simp [Result.andThen, sliced, h0]
/-- 'x[:]' -/
theorem cut2 (g : Nat) (W : World) : (Instr.sliceAt 55 (.pointer (some ⟨g, 0, none⟩)) none none none).run Try.prog W = .ok (.slice (some ⟨g, 0, none⟩) 2 2) W := by
  have hl : Try.prog.arrayLen 55 = 2 := by simp [Program.arrayLen, Try.underlying55]
  have he : Try.prog.elem 55 = 5 := by simp [Program.elem, Try.underlying55]
  have ht : Try.prog.underlying 55 = some (.array (Try.prog.arrayLen 55) (Try.prog.elem 55)) := by rw [hl, he]; exact Try.underlying55
  rw [run_sliceAt_array_all W _ _ ht, he, hl, size_u8]
  simp [Result.andThen, slicedAt, Addr.add]
/-- '!=' of two arrays of two bytes -/
theorem unlike2 (a b c d : Int) (W : World) : (binOp .neq 55 (.agg #[.int .u8 a, .int .u8 b]) (.agg #[.int .u8 c, .int .u8 d])).run Try.prog W = .ok (.bool (!(a == c && b == d))) W := by
  obtain ⟨i, hi, _⟩ := info_parts u8_info
  rw [run_neq_struct, run_equalIn_array W 9999 _ _ Try.underlying55 hi]
  have hc : (Try.prog).cellsOf 5 = 1 := by kernel_rfl
  rw [hc]
  have hp : ∀ (xs : Array Value) (j : Nat) (v : Value) (W : World), xs[j]? = some v → (part 5 xs j).run Try.prog W = .ok v W := fun xs j v W hv => by
    simp [part, isAgg, run_underlying Try.underlying5, hv]
  have he : ∀ (d : Nat) (x y : Int) (W : World), (Op.equalIn (d + 1) 5 (.int .u8 x) (.int .u8 y)).run Try.prog W = .ok (x == y) W := fun d x y W => run_equalIn_int W d 5 .u8 .u8 x y Try.underlying5
  rw [show List.range 2 = [0, 1] from rfl]
  simp only [Op.eqItems, Sem.run_bind, Nat.zero_mul, Nat.one_mul]
  rw [hp _ 0 (.int .u8 a) W rfl]
  simp only [Result.andThen_ok]
  rw [hp _ 0 (.int .u8 c) W rfl]
  simp only [Result.andThen_ok]
  rw [he 9998 a c W]
  simp only [Result.andThen_ok]
  by_cases h : a = c
  · simp only [h, beq_self_eq_true, Bool.not_true, Bool.false_eq_true, if_false, Bool.true_and, Sem.run_bind]
    rw [hp _ 1 (.int .u8 b) W rfl]
    simp only [Result.andThen_ok]
    rw [hp _ 1 (.int .u8 d) W rfl]
    simp only [Result.andThen_ok]
    rw [he 9998 b d W]
    by_cases h2 : b = d
    · simp [h2, Op.eqItems]
    · simp [h2, Op.eqItems]
  · simp [h]

/-- a Found, cell by cell -/
def fv (k s c : Int) (b : Value) : List Value := [.int .i64 k, .int .i64 s, .int .i64 c, b]
theorem fv_one (k s c : Int) (A : Option Addr) (n m : Nat) : ∀ v ∈ fv k s c (.slice A n m), v.oneCell' = true := by
  intro v hv
  simp only [fv, List.mem_cons, List.not_mem_nil, or_false] at hv
  rcases hv with rfl | rfl | rfl | rfl <;> rfl
def zf : Array Value := #[.int .i64 0, .int .i64 0, .int .i64 0, .slice none 0 0]
theorem new_zf (w : World) (t : TypeId) : Arr (w.alloc (.cells #[.int .i64 0, .int .i64 0, .int .i64 0, .slice none 0 0] t)) w.heap.size (fv 0 0 0 (.slice none 0 0)) := Arr.new_at w _ _ t rfl

theorem new_fv (w : World) (k s c : Int) (b : Value) (t : TypeId) : Arr (w.alloc (.cells #[.int .i64 k, .int .i64 s, .int .i64 c, b] t)) w.heap.size (fv k s c b) := Arr.new_at w _ _ t rfl
theorem below_new (w : World) (o : Obj) : Below w.heap.size w (w.alloc o) := (Below.refl _ _).alloc (Nat.le_refl _) _
set_option maxHeartbeats 400000 in
theorem reject_ok (c : Int) (w : World) :
    Calls Try.prog 23 #[.int .i64 c] w fun e w' => e = .returned (.agg (fv 3 1 c (.slice none 0 0)).toArray) ∧ Below w.heap.size w w' := by
  go_enter Try.func23, Try.ntmps23
  go_wp2
  exact ret_arr rfl w.heap.size _ _ rfl (new_fv w 3 1 c _ 48) Try.underlying48 rfl (by kernel_rfl) rfl ⟨rfl, below_new _ _⟩

theorem index_skip : ∀ l : List UInt8, Lib.indexByte l 165 = if skipN l < l.length then (skipN l : Int) else -1
  | [] => rfl
  | c :: l => by
    have ih := index_skip l
    have hle := skip_le l
    unfold Lib.indexByte
    rw [skipN]
    by_cases h : c = 165
    · simp [h]
    · simp only [h, if_false, ih, List.length_cons, beq_iff_eq]
      by_cases h2 : skipN l < l.length
      · have h3 : ¬ ((skipN l : Int) = -1) := by omega
        have h4 : skipN l + 1 < l.length + 1 := by omega
        simp only [h2, h3, h4, if_true, if_false]
        omega
      · have h4 : ¬ (skipN l + 1 < l.length + 1) := by omega
        simp only [h2, h4, if_true, if_false]
theorem bytes_back (l : List UInt8) : Lib.bytesOf (l.map fun c => (c.toNat : Int)) = l := by
  unfold Lib.bytesOf
  rw [List.map_map]
  conv => rhs; rw [← List.map_id l]
  apply List.map_congr_left
  intro c _
  show UInt8.ofNat ((c.toNat : Int)).toNat = c
  rw [Int.toNat_natCast, UInt8.ofNat_toNat]
set_option maxHeartbeats 400000 in
theorem index_ok (A : Option Addr) (n c : Nat) (l : List UInt8) (w : World) (hl : l.length = n) (hn : 0 < n) (hs : Seen w A l) :
    Calls Try.prog 27 #[.slice A n c, .int .u8 165] w fun e w' => e = .returned (.int .i64 (if skipN l < n then (skipN l : Int) else -1)) ∧ w = w' := by
  obtain ⟨b, o, rfl, hb, hc⟩ := hs.at_ (k := 0) (by omega)
  have hrun := Lib.run_indexByteSlice (P := Try.prog) w b o n c (l.map fun c => (c.toNat : Int)) (by simp [hl]) (fun i hi => by
    have hi' : i < l.length := by omega
    rw [hc i hi']
    simp [List.getD_eq_getElem?_getD, List.getElem?_eq_getElem hi']) 165
  rw [bytes_back, show ((165 : Int).toNat.toUInt8) = 165 from rfl, index_skip, hl] at hrun
  have hcall : (callFunc 29 #[.slice (some ⟨b, o, none⟩) n c, .int .u8 165]).run Try.prog w = .ok (.value (.int .i64 (if skipN l < n then (skipN l : Int) else -1))) w := by
    rw [run_callFunc_extern Try.func29 (by kernel_rfl) (by kernel_rfl) (by kernel_rfl) (e := Extern.BytealgIndexByte.indexByte) (by kernel_rfl), hrun]
    rfl
  generalize (if skipN l < n then (skipN l : Int) else -1) = r at hcall ⊢
  clear hrun
  go_enter Try.func27, Try.ntmps27
  go_wp2
  go_ret
  exact ⟨rfl, rfl⟩

set_option maxHeartbeats 400000 in
theorem skip_ok (A : Option Addr) (n c : Nat) (l : List UInt8) (w : World) (hl : l.length = n) (hn : 0 < n) (hs : Seen w A l) :
    Calls Try.prog 24 #[.slice A n c] w fun e w' => e = .returned (.agg (fv 1 (skipN l : Int) 0 (.slice none 0 0)).toArray) ∧ Below w.heap.size w w' := by
  have hsk := skip_le l
  have hs1 := hs.alloc (.cells #[.int .i64 0, .int .i64 0, .int .i64 0, .slice none 0 0] 48)
  obtain ⟨k, hk⟩ : ∃ k, skipN l = k := ⟨_, rfl⟩
  rw [hl] at hsk
  rw [hk] at hsk ⊢
  by_cases h : k < n
  · have hi := index_ok A n c l _ hl hn hs1
    rw [hk, if_pos h] at hi
    go_enter Try.func24, Try.ntmps24
    go_wp2_with fail
    (with_reducible refine hi.mono ?_)
    rintro e w' ⟨rfl, rfl⟩
    go_wp2
    exact ret_arr rfl w.heap.size _ _ rfl (new_fv w 1 k 0 _ 48) Try.underlying48 rfl (by kernel_rfl) rfl ⟨rfl, below_new _ _⟩
  · obtain rfl : k = n := by omega
    have hi := index_ok A k c l _ hl hn hs1
    rw [hk, if_neg h] at hi
    go_enter Try.func24, Try.ntmps24
    go_wp2_with fail
    (with_reducible refine hi.mono ?_)
    rintro e w' ⟨rfl, rfl⟩
    go_wp2
    exact ret_arr rfl w.heap.size _ _ rfl (new_fv w 1 k 0 _ 48) Try.underlying48 rfl (by kernel_rfl) rfl ⟨rfl, below_new _ _⟩

set_option maxHeartbeats 400000 in
theorem clone_ok (A : Option Addr) (n c : Nat) (l : List UInt8) (w : World) (hl : l.length = n) (hn : n ≤ 1048576) (hs : Seen w A l) :
    Calls Try.prog 18 #[.slice A n c] w fun e w' => ∃ v, e = .returned v ∧ Own w' w.heap.size v l ∧ Below w.heap.size w w' := by
  have q : ∀ (w : World) (a : Option Addr) (n c n' c' : Nat), (binOp .eql 23 (.slice a n c) (.slice none n' c')).run Try.prog w = .ok (.bool a.isNone) w := fun w a n c n' c' => Lib.run_eql_slice_nil w _ _ a n c n' c' Try.underlying23
  rcases A with _ | ad
  · obtain rfl : l = [] := by
      rcases Classical.em (l = []) with h | h
      · exact h
      · obtain ⟨_, _, e, _⟩ := hs h; cases e
    obtain rfl : n = 0 := hl.symm
    go_enter Try.func18, Try.ntmps18
    go_wp2
    go_ret
    exact ⟨_, rfl, Own.none_ _ _, Below.refl _ _⟩
  · replace hl := Lib.hid hl
    go_enter Try.func18, Try.ntmps18
    go_wp2_with (at_builtin; refine wpList_append_own_any _ rfl (.tmp 5) (.tmp 6) rfl w.heap.size _ [] rfl (own_none _ _ (Nat.le_refl _)) (some ad) n c rfl l hl.out (hs.alloc _) (by rw [hl.out]; simp; omega) (by simp) ?_)
    intro v w3 hown hg hat
    have hw3 : Below w.heap.size w w3 := ((Below.refl _ _).alloc (Nat.le_refl _) _).grown hg (by simp) (by intro g hg; simp [Value.ownBlock] at hg; omega)
    go_wp2
    go_ret
    exact ⟨_, rfl, hown, hw3⟩

set_option maxHeartbeats 400000 in
theorem summed_ok (A : Option Addr) (n c : Nat) (l : List UInt8) (s : Nat) (w : World) (hl : l.length = n) (hn : n ≤ 1048576) (hs : Seen w A l) (hsum : sumL 65535 l = s) :
    Calls Try.prog 26 #[.slice A n c] w fun e w' => e = .returned (.agg #[.int .u8 ((s / 256 : Nat) : Int), .int .u8 ((s % 256 : Nat) : Int)]) ∧ Below w.heap.size w w' := by
  have hlt : s < 65536 := by rw [← hsum]; exact sumL_lt _ (by decide)
  have hs1 := hs.alloc (.cells #[.int .u8 0, .int .u8 0] 55)
  replace hsum := Lib.hid hsum
  replace hl := Lib.hid hl
  go_enter Try.func26, Try.ntmps26
  go_wp2_with fail
  (with_reducible refine (sum_at A n c l s _ hl.out hn hs1 hsum.out).mono ?_)
  rintro e w' ⟨rfl, rfl⟩
  go_wp2
  exact ret_arr rfl w.heap.size _ _ rfl (Arr.new_at w [.int .u8 ((s / 256 : Nat) : Int), .int .u8 ((s % 256 : Nat) : Int)] _ 55 (by simp)) Try.underlying55 rfl (by kernel_rfl) rfl ⟨rfl, below_new _ _⟩
end Go.Proofs.Ytfgneepilofkeaa.frame
