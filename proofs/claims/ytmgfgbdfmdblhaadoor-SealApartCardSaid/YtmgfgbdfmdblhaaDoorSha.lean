/-
  CONTRACTS OF PACKAGE sha, and of its reference: what each function answers, whatever it is handed.
-/
import Derived.Test.YtmgfgbdfmdblhaaDoorShaMath
import Derived.Test.YtmgfgbdfmdblhaaDoorArr
import Derived.OpenShut
import Derived.WalkLawsBesides
import Derived.StillTailTactics
import Derived.Deep.QuietTactic
import Derived.BigQuiet
import Derived.Handy
namespace Go.Proofs.YtmgfgbdfmdblhaaDoor.sha
open Go.RowKit Go.Proofs.YtmgfgbdfmdblhaaDoor.octets
set_option linter.unusedVariables false
theorem below_drewN {B : Nat} {a w : World} (h : Below B a w) (n : Nat) : Below B a (w.drewN n) := ⟨h.os, h.tape, h.output, h.size, h.block⟩
theorem rot_parts (x : UInt32) (k : Nat) : (x.toNat : Int) / 2 ^ k = ((x.toNat / 2 ^ k : Nat) : Int) ∧ (x.toNat : Int) * 2 ^ (32 - k) % 4294967296 = ((x.toNat * 2 ^ (32 - k) % 4294967296 : Nat) : Int) ∧ x.toNat / 2 ^ k < 4294967296 := by
  have h : x.toNat / 2 ^ k ≤ x.toNat := Nat.div_le_self _ _
  have := u_lt x
  have p : ∀ j : Nat, ((2 : Int) ^ j) = ((2 ^ j : Nat) : Int) := fun j => by rw [Int.natCast_pow]; rfl
  refine ⟨by rw [p, ← Int.natCast_ediv], ?_, by omega⟩
  rw [p, ← Int.natCast_mul]
  generalize x.toNat * 2 ^ (32 - k) = y
  omega
theorem rot_int (x : UInt32) (k : Nat) : bits BinOp.or IntKind.u32 ((x.toNat : Int) / 2 ^ k) ((x.toNat : Int) * 2 ^ (32 - k) % 4294967296) = ((rotr x k).toNat : Int) := by
  obtain ⟨e1, e2, h⟩ := rot_parts x k
  rw [e1, e2, u32_or_nat _ _ h (Nat.mod_lt _ (by decide)), rotr_nat]
theorem rot_left (x : UInt32) (k m : Nat) (hk : k + m = 32) : bits BinOp.or IntKind.u32 ((x.toNat : Int) * 2 ^ m % 4294967296) ((x.toNat : Int) / 2 ^ (32 - m)) = ((rotr x k).toNat : Int) := by
  obtain rfl : m = 32 - k := by omega
  obtain ⟨e1, e2, h⟩ := rot_parts x k
  rw [show 32 - (32 - k) = k by omega, e1, e2, u32_or_nat _ _ (Nat.mod_lt _ (by decide)) h, Nat.or_comm, rotr_nat]
theorem and31 : ∀ k : Nat, k < 32 → 1 ≤ k → bits BinOp.and IntKind.u64 (IntKind.u64.wrap (-(k : Int))) 31 = ((32 - k : Nat) : Int) := by decide +kernel
theorem shr_int (x : UInt32) (k : Nat) (d : Int) (hd : d = 2 ^ k) : (x.toNat : Int) / d = ((shr x k).toNat : Int) := by
  rw [hd, shr_nat, (rot_parts x k).1]
set_option maxHeartbeats 400000 in
theorem left_ok (x : UInt32) (k : Nat) (h0 : 1 ≤ k) (h1 : k < 32) (w : World) :
    Calls Tryd.prog 34 #[.int .u32 (x.toNat : Int), .int .i64 (-(k : Int))] w fun e w' => e = .returned (.int .u32 ((rotr x k).toNat : Int)) ∧ w = w' := by
  have hx := u_lt x
  obtain ⟨m, hm⟩ : ∃ m, m = 32 - k := ⟨_, rfl⟩
  have E := and31 k h1 h0
  rw [← hm] at E
  have hm2 : m < 32 := by omega
  have F := Lib.hid (rot_left x k m (by omega))
  clear hm h0 h1
  go_enter Tryd.func34, Tryd.ntmps34
  go_wp2
  go_ret
  rw [← F.out]
  exact ⟨rfl, rfl⟩
set_option maxHeartbeats 400000 in
theorem turned_ok (x : UInt32) (k : Nat) (h0 : 1 ≤ k) (h1 : k < 32) (w : World) :
    Calls Tryd.prog 33 #[.int .u32 (x.toNat : Int), .int .i64 (k : Int)] w fun e w' => e = .returned (.int .u32 ((rotr x k).toNat : Int)) ∧ w = w' := by
  have hx := u_lt x
  go_enter Tryd.func33, Tryd.ntmps33
  go_wp2_with fail
  (with_reducible refine (left_ok x k h0 h1 _).mono ?_)
  rintro e w' ⟨rfl, rfl⟩
  go_wp2
  go_ret
  exact ⟨rfl, rfl⟩
theorem turned_at (x : UInt32) (k : Nat) (kk : Int) (hk : kk = (k : Int)) (h0 : 1 ≤ k) (h1 : k < 32) (w : World) :
    Calls Tryd.prog 33 #[.int .u32 (x.toNat : Int), .int .i64 kk] w fun e w' => e = .returned (.int .u32 ((rotr x k).toNat : Int)) ∧ w = w' := by subst hk; exact turned_ok x k h0 h1 w
theorem still_of {P : Program} {f : FuncId} {args : Array Value} {w : World} {v : Value} (h : Calls P f args w fun e w' => e = .returned v ∧ w = w') : Calls P f args w fun e w' => e = .returned v ∧ w' = w :=
  h.mono fun e w' ⟨h1, h2⟩ => ⟨h1, h2.symm⟩
theorem num4_step (n : Nat) (c : UInt8) (hn : n < 16777216) : bits BinOp.or IntKind.u32 ((n : Int) * 256) (c.toNat : Int) = ((n * 256 + c.toNat : Nat) : Int) := by
  have hc := c.toNat_lt
  have e : n * 256 ||| c.toNat = n * 256 + c.toNat := by
    have := Nat.shiftLeft_add_eq_or_of_lt (b := c.toNat) (i := 8) hc n
    rw [Nat.shiftLeft_eq] at this
    exact this.symm
  have e2 : (n : Int) * 256 = ((n * 256 : Nat) : Int) := by omega
  rw [e2, u32_or_nat _ _ (by omega) (by omega), e]
theorem num_four (c0 c1 c2 c3 : UInt8) : ((((c0.toNat : Int) * 256 + c1.toNat) * 256 + c2.toNat) * 256 + c3.toNat) = ((UInt32.ofNat (num [c0, c1, c2, c3])).toNat : Int) := by
  have h := num_lt [c0, c1, c2, c3]
  have e : num [c0, c1, c2, c3] = ((c0.toNat * 256 + c1.toNat) * 256 + c2.toNat) * 256 + c3.toNat := by simp [num]
  rw [UInt32.toNat_ofNat', Nat.mod_eq_of_lt (by simpa using h), e]
  omega
theorem wrap_shl (n p : Nat) (h : n < 4294967296) (h2 : n * p < 4294967296) : IntKind.u32.wrap (IntKind.u32.wrap (n : Int) * (p : Int)) = ((n * p : Nat) : Int) := by
  have e : (n : Int) % 4294967296 = (n : Int) := by omega
  rw [IntKind.wrap_u32', IntKind.wrap_u32', e, ← Int.natCast_mul]
  generalize n * p = m at h2 ⊢
  omega
theorem four_or_nat (n0 n1 n2 n3 : Nat) (h0 : n0 < 256) (h1 : n1 < 256) (h2 : n2 < 256) (h3 : n3 < 256) : bits BinOp.or IntKind.u32 (bits BinOp.or IntKind.u32 (bits BinOp.or IntKind.u32 (IntKind.u32.wrap (IntKind.u32.wrap (n0 : Int) * 16777216)) (IntKind.u32.wrap (IntKind.u32.wrap (n1 : Int) * 65536))) (IntKind.u32.wrap (IntKind.u32.wrap (n2 : Int) * 256))) (IntKind.u32.wrap (n3 : Int)) = ((((n0 : Int) * 256 + n1) * 256 + n2) * 256 + n3) := by
  have orAdd : ∀ a b k : Nat, b < 2 ^ k → a * 2 ^ k ||| b = a * 2 ^ k + b := fun a b k hb => by
    have := Nat.shiftLeft_add_eq_or_of_lt (b := b) (i := k) hb a
    rw [Nat.shiftLeft_eq] at this
    exact this.symm
  have o24 : ∀ a b : Nat, b < 16777216 → a * 16777216 ||| b = a * 16777216 + b := fun a b hb => orAdd a b 24 hb
  have o16 : ∀ a b : Nat, b < 65536 → a * 65536 ||| b = a * 65536 + b := fun a b hb => orAdd a b 16 hb
  have o8 : ∀ a b : Nat, b < 256 → a * 256 ||| b = a * 256 + b := fun a b hb => orAdd a b 8 hb
  have e0 := wrap_shl n0 16777216 (by omega) (by omega)
  have e1 := wrap_shl n1 65536 (by omega) (by omega)
  have e2 := wrap_shl n2 256 (by omega) (by omega)
  have e3 : IntKind.u32.wrap (n3 : Int) = (n3 : Int) := by rw [IntKind.wrap_u32']; omega
  rw [show (16777216 : Int) = ((16777216 : Nat) : Int) from rfl, show (65536 : Int) = ((65536 : Nat) : Int) from rfl, show (256 : Int) = ((256 : Nat) : Int) from rfl, e0, e1, e2, e3, u32_or_nat _ _ (by omega) (by omega), o24 _ _ (by omega)]
  rw [show n0 * 16777216 + n1 * 65536 = (n0 * 256 + n1) * 65536 from by omega, u32_or_nat _ _ (by omega) (by omega), o16 _ _ (by omega)]
  rw [show (n0 * 256 + n1) * 65536 + n2 * 256 = ((n0 * 256 + n1) * 256 + n2) * 256 from by omega, u32_or_nat _ _ (by omega) (by omega), o8 _ _ (by omega)]
  simp only [Int.natCast_add, Int.natCast_mul]
theorem four_or (c0 c1 c2 c3 : UInt8) : bits BinOp.or IntKind.u32 (bits BinOp.or IntKind.u32 (bits BinOp.or IntKind.u32 (IntKind.u32.wrap (IntKind.u32.wrap (c0.toNat : Int) * 16777216)) (IntKind.u32.wrap (IntKind.u32.wrap (c1.toNat : Int) * 65536))) (IntKind.u32.wrap (IntKind.u32.wrap (c2.toNat : Int) * 256))) (IntKind.u32.wrap (c3.toNat : Int)) = ((UInt32.ofNat (num [c0, c1, c2, c3])).toNat : Int) := by
  rw [four_or_nat _ _ _ _ c0.toNat_lt c1.toNat_lt c2.toNat_lt c3.toNat_lt, num_four]
set_option maxHeartbeats 400000 in
theorem word_ok (c0 c1 c2 c3 : UInt8) (w : World) :
    Calls Tryd.prog 32 #[.agg #[.int .u8 (c0.toNat : Int), .int .u8 (c1.toNat : Int), .int .u8 (c2.toNat : Int), .int .u8 (c3.toNat : Int)]] w fun e w' => e = .returned (.int .u32 ((UInt32.ofNat (num [c0, c1, c2, c3])).toNat : Int)) ∧ Below w.heap.size w w' := by
  have h0 := c0.toNat_lt
  have h1 := c1.toNat_lt
  have h2 := c2.toNat_lt
  have h3 := c3.toNat_lt
  have hb := (Below.refl w.heap.size w).alloc (Nat.le_refl _) (.cells #[.int .u8 (c0.toNat : Int), .int .u8 (c1.toNat : Int), .int .u8 (c2.toNat : Int), .int .u8 (c3.toNat : Int)] 66)
  have hn := Lib.hid (num_four c0 c1 c2 c3)
  obtain ⟨d0, e0⟩ : ∃ d : Nat, c0.toNat = d := ⟨_, rfl⟩
  obtain ⟨d1, e1⟩ : ∃ d : Nat, (c0.toNat * 256 + c1.toNat) = d := ⟨_, rfl⟩
  obtain ⟨d2, e2⟩ : ∃ d : Nat, (d1 * 256 + c2.toNat) = d := ⟨_, rfl⟩
  obtain ⟨d3, e3⟩ : ∃ d : Nat, (d2 * 256 + c3.toNat) = d := ⟨_, rfl⟩
  have s0 : bits BinOp.or IntKind.u32 0 (c0.toNat : Int) = (c0.toNat : Int) := by
    have := u32_or_nat 0 c0.toNat (by decide) (by omega)
    rw [Nat.zero_or] at this
    exact this
  have s1 := num4_step c0.toNat c1 (by omega)
  have s2 := num4_step d1 c2 (by omega)
  have s3 := num4_step d2 c3 (by omega)
  rw [e1] at s1
  rw [e2] at s2
  rw [e3] at s3
  have b1 : d1 < 65536 := by omega
  have b2 : d2 < 16777216 := by omega
  replace hn : Hid ((d3 : Int) = ((UInt32.ofNat (num [c0, c1, c2, c3])).toNat : Int)) := Lib.hid (by rw [← hn.out]; omega)
  clear e0 e1 e2 e3
  have i0 : ∀ W : World, (Instr.index 66 (.agg #[.int .u8 (c0.toNat : Int), .int .u8 (c1.toNat : Int), .int .u8 (c2.toNat : Int), .int .u8 (c3.toNat : Int)]) (.int .i64 0)).run Tryd.prog W = .ok (.int .u8 (c0.toNat : Int)) W := fun _ => by kernel_rfl
  have i1 : ∀ W : World, (Instr.index 66 (.agg #[.int .u8 (c0.toNat : Int), .int .u8 (c1.toNat : Int), .int .u8 (c2.toNat : Int), .int .u8 (c3.toNat : Int)]) (.int .i64 1)).run Tryd.prog W = .ok (.int .u8 (c1.toNat : Int)) W := fun _ => by kernel_rfl
  have i2 : ∀ W : World, (Instr.index 66 (.agg #[.int .u8 (c0.toNat : Int), .int .u8 (c1.toNat : Int), .int .u8 (c2.toNat : Int), .int .u8 (c3.toNat : Int)]) (.int .i64 2)).run Tryd.prog W = .ok (.int .u8 (c2.toNat : Int)) W := fun _ => by kernel_rfl
  have i3 : ∀ W : World, (Instr.index 66 (.agg #[.int .u8 (c0.toNat : Int), .int .u8 (c1.toNat : Int), .int .u8 (c2.toNat : Int), .int .u8 (c3.toNat : Int)]) (.int .i64 3)).run Tryd.prog W = .ok (.int .u8 (c3.toNat : Int)) W := fun _ => by kernel_rfl
  go_enter Tryd.func32, Tryd.ntmps32
  go_wp2
  go_rounds 5
  go_ret
  rw [← hn.out]
  exact ⟨rfl, hb⟩
set_option maxHeartbeats 1000000 in
theorem round_lit (a b c d x f g z n : UInt32) (w : World) :
    Calls Tryd.prog 31 #[.agg #[.int .u32 (a.toNat : Int), .int .u32 (b.toNat : Int), .int .u32 (c.toNat : Int), .int .u32 (d.toNat : Int), .int .u32 (x.toNat : Int), .int .u32 (f.toNat : Int), .int .u32 (g.toNat : Int), .int .u32 (z.toNat : Int)], .int .u32 (n.toNat : Int)] w fun e w' => e = .returned (.agg (cells32 (rnd [a, b, c, d, x, f, g, z] n)).toArray) ∧ Below w.heap.size w w' := by
  have hA := Arr.new_at w (cells32 [a, b, c, d, x, f, g, z]) #[.int .u32 (a.toNat : Int), .int .u32 (b.toNat : Int), .int .u32 (c.toNat : Int), .int .u32 (d.toNat : Int), .int .u32 (x.toNat : Int), .int .u32 (f.toNat : Int), .int .u32 (g.toNat : Int), .int .u32 (z.toNat : Int)] 57 rfl
  have hb := (Below.refl w.heap.size w).alloc (Nat.le_refl _) (.cells #[.int .u32 (a.toNat : Int), .int .u32 (b.toNat : Int), .int .u32 (c.toNat : Int), .int .u32 (d.toNat : Int), .int .u32 (x.toNat : Int), .int .u32 (f.toNat : Int), .int .u32 (g.toNat : Int), .int .u32 (z.toNat : Int)] 57)
  go_enter Tryd.func31, Tryd.ntmps31
  go_wp2_with fail
  go_quiet (fail)
  go_wp2_with fail
  (with_reducible refine (turned_at x 6 6 rfl (by decide) (by decide) _).mono ?_)
  rintro e w' ⟨rfl, rfl⟩
  go_wp2_with fail
  (with_reducible refine (turned_at x 11 11 rfl (by decide) (by decide) _).mono ?_)
  rintro e w' ⟨rfl, rfl⟩
  go_wp2_with fail
  (with_reducible refine (turned_at x 25 25 rfl (by decide) (by decide) _).mono ?_)
  rintro e w' ⟨rfl, rfl⟩
  go_wp2_with fail
  (with_reducible refine (turned_at a 2 2 rfl (by decide) (by decide) _).mono ?_)
  rintro e w' ⟨rfl, rfl⟩
  go_wp2_with fail
  (with_reducible refine (turned_at a 13 13 rfl (by decide) (by decide) _).mono ?_)
  rintro e w' ⟨rfl, rfl⟩
  go_wp2_with fail
  (with_reducible refine (turned_at a 22 22 rfl (by decide) (by decide) _).mono ?_)
  rintro e w' ⟨rfl, rfl⟩
  go_wp2
  go_returns
  refine ⟨?_, by go_grown; exact below_drewN (by go_grown) _⟩
  simp only [u_xor, u_and, u_or, u_not, u_sum6, u_sum5]
  rfl
theorem round_ok (h : List UInt32) (hh : h.length = 8) (n : UInt32) (w : World) :
    Calls Tryd.prog 31 #[.agg (cells32 h).toArray, .int .u32 (n.toNat : Int)] w fun e w' => e = .returned (.agg (cells32 (rnd h n)).toArray) ∧ Below w.heap.size w w' := by
  obtain ⟨a, b, c, d, x, f, g, z, rfl⟩ := eight hh
  exact round_lit a b c d x f g z n w
theorem cut_block (B i : Nat) (hi : i < 16) (W : World) : (Instr.sliceAt 47 (.pointer (some ⟨B, 0, none⟩)) (some (.int .i64 (4 * (i : Int)))) none none).run Tryd.prog W = .ok (.slice (some ⟨B, 4 * i, none⟩) (64 - 4 * i) (64 - 4 * i)) W := by
  have hl : Tryd.prog.arrayLen 47 = 64 := by simp [Program.arrayLen, Tryd.underlying47]
  have he : Tryd.prog.elem 47 = 5 := by simp [Program.elem, Tryd.underlying47]
  have ht : Tryd.prog.underlying 47 = some (.array (Tryd.prog.arrayLen 47) (Tryd.prog.elem 47)) := by rw [hl, he]; exact Tryd.underlying47
  rw [run_sliceAt_array_l W _ _ ht .i64 (4 * (i : Int)) (by omega) (by rw [hl]; omega), he, hl, size_u8]
  have e : (4 * (i : Int)).toNat = 4 * i := by omega
  rw [e]
  have h1 : ¬ 64 = 4 * i := by omega
  simp [Result.andThen, slicedAt, Addr.add, h1]
  intro h; omega
theorem fit_four (a : Addr) (n c : Nat) (hn : 4 ≤ n) (W : World) : (Instr.arrayAt 66 (.slice (some a) n c)).run Tryd.prog W = .ok (.pointer (some a)) W := by
  have h : ¬ n < 4 := by omega
  simp [Instr.arrayAt, run_underlying Tryd.underlying66, h]
theorem part_four {W : World} {B : Nat} {l : List UInt8} (h : Arr W B (vals l)) (o : Nat) (c0 c1 c2 c3 : UInt8) (he : (l.drop o).take 4 = [c0, c1, c2, c3]) :
    W.rangeAt B o [.int .u8 (c0.toNat : Int), .int .u8 (c1.toNat : Int), .int .u8 (c2.toNat : Int), .int .u8 (c3.toNat : Int)] := by
  have e : ((vals l).drop o).take 4 = [.int .u8 (c0.toNat : Int), .int .u8 (c1.toNat : Int), .int .u8 (c2.toNat : Int), .int .u8 (c3.toNat : Int)] := by
    rw [vals, ← List.map_drop, ← List.map_take, he]; rfl
  have := h.part o 4
  rw [e] at this
  exact this
theorem four_of (l : List UInt8) (o : Nat) (h : o + 4 ≤ l.length) : ∃ c0 c1 c2 c3, (l.drop o).take 4 = [c0, c1, c2, c3] := by
  have : ((l.drop o).take 4).length = 4 := by simp; omega
  match (l.drop o).take 4, this with
  | [a, b, c, d], _ => exact ⟨a, b, c, d, rfl⟩
end Go.Proofs.YtmgfgbdfmdblhaaDoor.sha
