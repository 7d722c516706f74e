/-
  THE WALK OF 'CrcLinear': the sums of three rows of bytes, and of what they are together bit by bit, are together the same way.
-/
import Derived.Test.YtlepghjfbcbcpaaCrcApartWalk
import Derived.StillTailTactics
namespace Go.Proofs.Ytlepghjfbcbcpaa.walks
open Go.ChangeShapes Go.WideShapes Go.ChangeAt Go.RowKit Go.Proofs.Ytlepghjfbcbcpaa.octets Go.Proofs.Ytlepghjfbcbcpaa.crc Go.Proofs.Ytlepghjfbcbcpaa.given
set_option linter.unusedVariables false

/-- of a row that is written from the front on, what stands there behind i steps -/
def part (f : Nat → UInt8) (p i : Nat) : List UInt8 := (List.range p).map fun j => if j < i then f j else 0
theorem part_len (f : Nat → UInt8) (p i : Nat) : (part f p i).length = p := by simp [part]
theorem part_zero (f : Nat → UInt8) (p : Nat) : part f p 0 = List.replicate p 0 := by
  apply List.ext_getElem (by simp [part])
  intro j h1 h2
  simp [part]
theorem part_set (f : Nat → UInt8) (p i : Nat) (h : i < p) : (part f p i).set i (f i) = part f p (i + 1) := by
  apply List.ext_getElem (by simp [part])
  intro j h1 h2
  simp only [part, List.getElem_set, List.getElem_map, List.getElem_range]
  by_cases e : i = j
  · subst e; rw [if_pos rfl, if_pos (by omega)]
  · rw [if_neg e]
    by_cases e2 : j < i
    · rw [if_pos e2, if_pos (by omega)]
    · rw [if_neg e2, if_neg (by omega)]
theorem part_get (f : Nat → UInt8) (p j : Nat) (h : j < p) : (part f p p)[j]'(by rw [part_len]; exact h) = f j := by
  simp [part, h]
theorem u8_xor3 (a b c : UInt8) : bits BinOp.xor IntKind.u8 (bits BinOp.xor IntKind.u8 (a.toNat : Int) (b.toNat : Int)) (c.toNat : Int) = ((a ^^^ b ^^^ c).toNat : Int) := by
  have ha := a.toNat_lt
  have hb := b.toNat_lt
  have hc := c.toNat_lt
  rw [u8_xor_nat _ _ ha hb, u8_xor_nat _ _ (Nat.xor_lt_two_pow (n := 8) ha hb) hc, UInt8.toNat_xor, UInt8.toNat_xor]
theorem sum_tri (s0 s1 s2 : Nat) : ∀ (n : Nat) (x y z t : List UInt8), x.length = n → y.length = n → z.length = n → t.length = n → (∀ j, j < n → t.getD j 0 = x.getD j 0 ^^^ y.getD j 0 ^^^ z.getD j 0) →
    ∀ m, m ≤ n → sumL (s0 ^^^ s1 ^^^ s2) (t.take m) = sumL s0 (x.take m) ^^^ sumL s1 (y.take m) ^^^ sumL s2 (z.take m) := by
  intro n x y z t hx hy hz ht h m
  induction m with
  | zero => intro _; rfl
  | succ m ih =>
    intro hm
    have e := h m (by omega)
    simp only [List.getD_eq_getElem?_getD, List.getElem?_eq_getElem (show m < t.length by omega), List.getElem?_eq_getElem (show m < x.length by omega), List.getElem?_eq_getElem (show m < y.length by omega), List.getElem?_eq_getElem (show m < z.length by omega), Option.getD_some] at e
    rw [sumL_take _ t m (by omega), sumL_take _ x m (by omega), sumL_take _ y m (by omega), sumL_take _ z m (by omega), ih (by omega), e, UInt8.toNat_xor, UInt8.toNat_xor, stp_xor, stp_xor]

set_option maxRecDepth 100000 in
set_option maxHeartbeats 1000000 in
theorem linear_core (a : Option Addr) (n cap : Nat) (b : Option Addr) (bn bc : Nat) (c : Option Addr) (cn cc : Nat) (x y z : List UInt8) (p : Nat) (w : World) (hx : Seen w a x) (hy : Seen w b y) (hz : Seen w c z) (hp : p = min n 300) (hxl : x.length = p) (hyl : y.length = bn) (hzl : z.length = cn) (hc : n ≤ cap) :
    Calls Try.prog 6 #[.slice a n cap, .slice b bn bc, .slice c cn cc] w fun e w' => e = .returned (.bool true) ∧ Below w.heap.size w w' := by
  have hp3 : p ≤ 300 := by omega
  have hmk := fun W => run_make_row' (P := Try.prog) 22 5 (.int .u8 0) 1 Try.underlying22 u8_info rfl .i64 .i64 p (by omega) (by omega) W
  replace hp := Lib.hid hp
  replace hxl := Lib.hid hxl
  replace hyl := Lib.hid hyl
  replace hzl := Lib.hid hzl
  go_enter Try.func6, Try.ntmps6
  try dsimp only [List.append]
  go_wp2_with fail
  (with_reducible refine (shown_any _).mono ?_)
  rintro e w1 ⟨rfl, hw1⟩
  have hx1 := hx.since hw1
  have hz1 := hw1.size
  go_wp2_with fail
  (with_reducible refine (few_ok a n cap p _ hc hp.out).mono ?_)
  rintro e w' ⟨rfl, rfl⟩
  have hw1a := hw1.alloc hz1 (.cells (madeCells #[.int .u8 0] p) 5)
  have hw1b := hw1a.alloc hw1a.size (.cells (madeCells #[.int .u8 0] p) 5)
  have hY := (Held.made w1 p (by simp [maxLen]; omega)).alloc (.cells (madeCells #[.int .u8 0] p) 5)
  have hZ := Held.made (w1.alloc (.cells (madeCells #[.int .u8 0] p) 5)) p (by simp [maxLen]; omega)
  have hy1 := hy.since hw1b
  have hys := hw1a.size
  rw [show (w1.alloc (.cells (madeCells #[.int .u8 0] p) 5)).heap.size = w1.heap.size + 1 by simp] at hZ
  go_wp2_with (guard_target =~ wpList _ _ _ (Oper.mk _ (Op.call ⟨Callee.builtin Builtin.copy, _, _⟩) _ _ _ _ :: _) _ _; refine wpList_copy_held _ rfl (.tmp 22) (.tmp 23) rfl w1.heap.size p p rfl (List.replicate p 0) (by simp) p hY b bn bc rfl y hyl.out hy1 ?_)
  intro w2 hY2 ho2 hb2 hs2
  replace hs2 := Lib.hid hs2
  have hw2 := hw1b.trans (hb2.mono hz1)
  have hZ2 := hZ.of_block (ho2 (w1.heap.size + 1) (by omega))
  have hz2 := hz.since hw2
  clear hY hZ hb2
  go_wp2_with (guard_target =~ wpList _ _ _ (Oper.mk _ (Op.call ⟨Callee.builtin Builtin.copy, _, _⟩) _ _ _ _ :: _) _ _; refine wpList_copy_held _ rfl (.tmp 25) (.tmp 26) rfl (w1.heap.size + 1) p p rfl (List.replicate p 0) (by simp) p hZ2 c cn cc rfl z hzl.out hz2 ?_)
  intro w3 hZ3 ho3 hb3 hs3
  replace hs3 := Lib.hid hs3
  have hw3 := hw2.trans (hb3.mono (by omega))
  have hY3 := hY2.of_block (ho3 w1.heap.size (by omega))
  clear hZ2 hY2 hb3 ho2 ho3
  obtain ⟨Y, hYe⟩ : ∃ Y, laid (List.replicate p 0) y = Y := ⟨_, rfl⟩
  obtain ⟨Z, hZe⟩ : ∃ Z, laid (List.replicate p 0) z = Z := ⟨_, rfl⟩
  rw [hYe] at hY3
  rw [hZe] at hZ3
  have hYl : Y.length = p := by rw [← hYe, laid_len, List.length_replicate]
  have hZl : Z.length = p := by rw [← hZe, laid_len, List.length_replicate]
  clear hYe hZe
  have hz3 := hw3.size
  have hw4 := hw3.alloc hz3 (.cells (madeCells #[.int .u8 0] p) 5)
  have hY4 := hY3.alloc (.cells (madeCells #[.int .u8 0] p) 5)
  have hZ4 := hZ3.alloc (.cells (madeCells #[.int .u8 0] p) 5)
  have hT4 := Held.made w3 p (by simp [maxLen]; omega)
  obtain ⟨f, hf⟩ : ∃ f : Nat → UInt8, f = fun j => x.getD j 0 ^^^ Y.getD j 0 ^^^ Z.getD j 0 := ⟨_, rfl⟩
  rw [← part_zero f p] at hT4
  have hlt3 : w1.heap.size + 1 < w3.heap.size := hZ3.lt
  replace hf := Lib.hid hf
  replace hYl := Lib.hid hYl
  replace hZl := Lib.hid hZl
  go_wp2
  go_loopw [12] (fun t wr => ∃ i : Nat, i ≤ p ∧ t = .int .i64 i ∧ Below w.heap.size w wr ∧ (∀ k, k < w3.heap.size → wr.heap[k]? = w3.heap[k]?) ∧ Held wr w3.heap.size p (part f p i)) (fun t _ => p - (intOf t).toNat)
  case atStart => exact ⟨0, by omega, rfl, hw4, fun k hk => Go.Deep.blk_alloc_lt _ _ _ hk, hT4⟩
  case round =>
    obtain ⟨i, hi, rfl, hwr, hor, hTr⟩ := hrel
    have hxr := hx.since hwr
    have hYr := hY3.of_block (hor w1.heap.size (by omega))
    have hZr := hZ3.of_block (hor (w1.heap.size + 1) (by omega))
    by_cases hlt : i < p
    · have h1 : i < x.length := by rw [hxl.out]; exact hlt
      have h2 : i < Y.length := by rw [hYl.out]; exact hlt
      have h3 : i < Z.length := by rw [hZl.out]; exact hlt
      obtain ⟨xb, xo, rfl, _, hc'⟩ := hxr.at_ h1
      have c1 := hc' i h1
      have c2 := hYr.cell h2
      have c3 := hZr.cell h3
      have c4 := hTr.cell (i := i) (by rw [part_len]; exact hlt)
      have fr := hTr.frozen i
      have E := Lib.hid (u8_xor3 x[i] Y[i] Z[i])
      have Ef : f i = x[i] ^^^ Y[i] ^^^ Z[i] := by rw [hf.out]; simp [List.getElem?_eq_getElem h1, List.getElem?_eq_getElem h2, List.getElem?_eq_getElem h3]
      replace Ef := Lib.hid Ef
      have hset := hTr.set i (f i)
      rw [part_set f p i hlt, Ef.out, ← E.out] at hset
      replace hset := Lib.hid hset
      clear hc'
      go_wp2_with fail
      go_still_tail 17, (by kernel_rfl)
      change wpList _ _ _ _ _ wr.drew
      have fr' : wr.drew.frozen? ⟨w3.heap.size, i, none⟩ = false := fr
      have c4' : wr.drew.cell? ⟨w3.heap.size, i, none⟩ = some (.int .u8 ((part f p i)[i]'(by rw [part_len]; exact hlt)).toNat) := c4
      have hb' : Below w.heap.size w wr.drew := hwr.drew
      have ho' : ∀ k, k < w3.heap.size → wr.drew.heap[k]? = w3.heap[k]? := hor
      have hset' : Hid (Held (wr.drew.setCell ⟨w3.heap.size, i, none⟩ (.int .u8 (bits BinOp.xor IntKind.u8 (bits BinOp.xor IntKind.u8 (x[i].toNat : Int) (Y[i].toNat : Int)) (Z[i].toNat : Int)))) w3.heap.size p (part f p (i + 1))) := hset
      generalize wr.drew = w2' at fr' c4' hb' ho' hset' ⊢
      go_wp2
      go_roundw
      case rel => exact ⟨i + 1, by omega, by go_num, hb'.setCell hz3 _, fun k hk => (Below.heap_setCell _ _ _ k (by simp; omega)).trans (ho' k hk), hset'.out⟩
      case measure => simp [intOf]; omega
    · obtain rfl : i = p := by omega
      obtain ⟨s, hs⟩ : ∃ s, sumL 65535 x = s := ⟨_, rfl⟩
      obtain ⟨s1, hs1⟩ : ∃ s, sumL 65535 Y = s := ⟨_, rfl⟩
      obtain ⟨s2, hs2⟩ : ∃ s, sumL 65535 Z = s := ⟨_, rfl⟩
      have l0 : s < 65536 := by rw [← hs]; exact sumL_lt _ (by decide)
      have l1 : s1 < 65536 := by rw [← hs1]; exact sumL_lt _ (by decide)
      have l2 : s2 < 65536 := by rw [← hs2]; exact sumL_lt _ (by decide)
      obtain ⟨v, hv⟩ : ∃ v, s ^^^ s1 ^^^ s2 = v := ⟨_, rfl⟩
      have ev : bits BinOp.xor IntKind.u16 (bits BinOp.xor IntKind.u16 (s : Int) (s1 : Int)) (s2 : Int) = (v : Int) := by
        rw [u16_xor_nat _ _ l0 l1, u16_xor_nat _ _ (xor_lt l0 l1) l2, hv]
      have hsum : sumL 65535 (part f i i) = v := by
        have hj : ∀ j, j < i → (part f i i).getD j 0 = x.getD j 0 ^^^ Y.getD j 0 ^^^ Z.getD j 0 := by
          intro j hj
          have := part_get f i j hj
          rw [List.getD_eq_getElem?_getD, List.getElem?_eq_getElem (by rw [part_len]; exact hj), Option.getD_some, this, hf.out]
        have := sum_tri 65535 65535 65535 i x Y Z (part f i i) hxl.out hYl.out hZl.out (part_len _ _ _) hj i (Nat.le_refl _)
        rw [List.take_of_length_le (by rw [part_len]; omega), List.take_of_length_le (by rw [hxl.out]; omega), List.take_of_length_le (by rw [hYl.out]; omega), List.take_of_length_le (by rw [hZl.out]; omega), hs, hs1, hs2, hv] at this
        exact this
      replace hs := Lib.hid hs
      replace hs1 := Lib.hid hs1
      replace hs2 := Lib.hid hs2
      replace hv := Lib.hid hv
      replace hsum := Lib.hid hsum
      go_wp2_with fail
      (with_reducible refine (sum_at _ i cap x s _ hxl.out (by omega) hxr hs.out).mono ?_)
      rintro e w' ⟨rfl, rfl⟩
      go_wp2_with fail
      (with_reducible refine (sum_at _ i i Y s1 _ hYl.out (by omega) hYr.seen hs1.out).mono ?_)
      rintro e w' ⟨rfl, rfl⟩
      go_wp2_with fail
      (with_reducible refine (sum_at _ i i Z s2 _ hZl.out (by omega) hZr.seen hs2.out).mono ?_)
      rintro e w' ⟨rfl, rfl⟩
      go_wp2_with fail
      (with_reducible refine (sum_at _ i i (part f i i) v _ (part_len _ _ _) (by omega) hTr.seen hsum.out).mono ?_)
      rintro e w' ⟨rfl, rfl⟩
      go_wp2
      go_ret
      exact ⟨rfl, hwr⟩

theorem crcLinear (a0 : Option Addr) (len0 cap0 : Nat) (z0 : List Int) (a1 : Option Addr) (len1 cap1 : Nat) (z1 : List Int) (a2 : Option Addr) (len2 cap2 : Nat) (z2 : List Int) (w : World) (w0 : Nums .u8 w a0 len0 cap0 z0) (w1 : Nums .u8 w a1 len1 cap1 z1) (w2 : Nums .u8 w a2 len2 cap2 z2) :
    Calls Try.prog 6 #[.slice a0 len0 cap0, .slice a1 len1 cap1, .slice a2 len2 cap2] w fun e w' => e = .returned (.bool true) ∧ Below w.heap.size w w' := by
  obtain ⟨x, rfl, hx, hc⟩ := seen_nums w0
  obtain ⟨y, rfl, hy, hc2⟩ := seen_nums w1
  obtain ⟨z, rfl, hz, hc3⟩ := seen_nums w2
  exact linear_core a0 _ cap0 a1 _ cap1 a2 _ cap2 (x.take 300) y z _ w (hx.take 300) hy hz rfl (by simp; omega) rfl rfl hc
end Go.Proofs.Ytlepghjfbcbcpaa.walks
