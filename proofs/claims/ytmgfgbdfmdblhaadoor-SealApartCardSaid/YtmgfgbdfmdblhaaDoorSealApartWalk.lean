/-
  THE WALK OF 'SealApart': of which bytes a challenge, a proof and a key are told. (Written by program: wip/tools/gen_seal_apart.py.)
-/
import Derived.Test.YtmgfgbdfmdblhaaDoorSeal
import Derived.Test.YtmgfgbdfmdblhaaDoorMacSame
import Derived.Test.YtmgfgbdfmdblhaaDoorStructEq
namespace Go.Proofs.YtmgfgbdfmdblhaaDoor.walks
open Go.ChangeShapes Go.WideShapes Go.ChangeAt Go.RowKit Go.Proofs.YtmgfgbdfmdblhaaDoor.octets Go.Proofs.YtmgfgbdfmdblhaaDoor.sha Go.Proofs.YtmgfgbdfmdblhaaDoor.mac Go.Proofs.YtmgfgbdfmdblhaaDoor.sealed Go.Proofs.YtmgfgbdfmdblhaaDoor.given Go.Proofs.YtmgfgbdfmdblhaaDoor.pack
set_option linter.unusedVariables false
set_option linter.unusedSimpArgs false

/-- what lies in memory throughout -/
def St (w : World) (s r N : Int) (nn : List UInt8) (W : World) : Prop := Below w.heap.size w W ∧ Arr W w.heap.size [.int .i64 s, .int .i64 r, .int .i64 N] ∧ Arr W (w.heap.size + 1) (vals nn)
theorem St.since {w W W' : World} {s r N : Int} {nn : List UInt8} (h : St w s r N nn W) (hb : Below W.heap.size W W') : St w s r N nn W' := ⟨h.1.trans (hb.mono h.1.size), h.2.1.since hb, h.2.2.since hb⟩
theorem St.lt {w W : World} {s r N : Int} {nn : List UInt8} (h : St w s r N nn W) : w.heap.size + 1 < W.heap.size := h.2.2.lt
theorem St.alloc {w W : World} {s r N : Int} {nn : List UInt8} (h : St w s r N nn W) (o : Obj) : St w s r N nn (W.alloc o) := h.since ((Below.refl _ _).alloc (Nat.le_refl _) _)
theorem St.store {w W W' : World} {s r N : Int} {nn : List UInt8} {q : Nat} (h : St w s r N nn W) (ho : ∀ k, k ≠ q → W'.heap[k]? = W.heap[k]?) (hb : Below q W W') (hq : w.heap.size + 1 < q) : St w s r N nn W' := ⟨h.1.trans (hb.mono (by omega)), h.2.1.of_block (ho _ (by omega)), h.2.2.of_block (ho _ (by omega))⟩
theorem St.grown {w W W' : World} {s r N : Int} {nn : List UInt8} {v : Value} {b : Nat} {l : List UInt8} (h : St w s r N nn W) (hg : W.grownBy W' v.ownBlock) (ho : Own W b v l) (hb : w.heap.size + 1 < b) : St w s r N nn W' := by
  have ne : ∀ k, k < b → some k ≠ v.ownBlock := fun k hk e => by have := (ho.lt e.symm).1; omega
  refine ⟨h.1.grown hg h.1.size fun k e => by have := (ho.lt e).1; omega, h.2.1.of_block (hg.block _ h.2.1.lt (ne _ (by omega))), h.2.2.of_block (hg.block _ h.2.2.lt (ne _ (by omega)))⟩
theorem cut_all8 (g : Nat) (W : World) : (Instr.sliceAt 29 (.pointer (some ⟨g, 0, none⟩)) none none none).run Tryd.prog W = .ok (.slice (some ⟨g, 0, none⟩) 8 8) W := by
  have hl : Tryd.prog.arrayLen 29 = 8 := by simp [Program.arrayLen, Tryd.underlying29]
  have he : Tryd.prog.elem 29 = 5 := by simp [Program.elem, Tryd.underlying29]
  have ht : Tryd.prog.underlying 29 = some (.array (Tryd.prog.arrayLen 29) (Tryd.prog.elem 29)) := by rw [hl, he]; exact Tryd.underlying29
  rw [run_sliceAt_array_all W _ _ ht, he, hl, size_u8]
  simp [Result.andThen, slicedAt, Addr.add]
theorem eql_own (n : Nat) (t : TypeId) (ht : Tryd.prog.underlying t = some (.array n 5)) (M : List UInt8) (hM : M.length = n) (W : World) : (binOp .eql t (.agg (vals M).toArray) (.agg (vals M).toArray)).run Tryd.prog W = .ok (.bool true) W := by
  have h := run_eql_self (P := Tryd.prog) W t 5 n .u8 ht Tryd.underlying5 (fun W => size_u8 W) (M.map fun c => (c.toNat : Int)) (by simpa using hM)
  simpa [vals, List.map_map, Function.comp_def] using h
theorem low_byte (x : Int) : bits BinOp.and IntKind.i64 x 255 = ((u8i x).toNat : Int) := by rw [u8i_val]; exact and_ones x 8 (by decide)
theorem low_four (m : Int) : octs 4 (low32 m) = [u8i (m / 16777216), u8i (m / 65536), u8i (m / 256), u8i m] := by
  have e : ∀ (n : Nat) (x : Int), (n : Int) % 256 = x % 256 → UInt8.ofNat n = u8i x := fun n x h => by
    unfold u8i
    apply UInt8.toNat_inj.1
    rw [UInt8.toNat_ofNat', UInt8.toNat_ofNat']
    omega
  have hl : ((low32 m : Nat) : Int) = m % 4294967296 := by unfold low32; omega
  rw [show octs 4 (low32 m) = [UInt8.ofNat (low32 m / 256 / 256 / 256), UInt8.ofNat (low32 m / 256 / 256), UInt8.ofNat (low32 m / 256), UInt8.ofNat (low32 m)] by simp [octs]]
  rw [e _ (m / 16777216) (by omega), e _ (m / 65536) (by omega), e _ (m / 256) (by omega), e _ m (by omega)]
set_option maxRecDepth 100000 in
set_option maxHeartbeats 4000000 in
theorem apart_core (H : sealed.CodeOk) (A : Option Addr) (n cap q : Nat) (k nn : List UInt8) (s r N : Int) (w : World) (hN : -9223372036854775808 ≤ N ∧ N ≤ 9223372036854775807) (hq : q = min n 60) (hc : n ≤ cap) (hk : k.length = q) (h8 : nn.length = 8) (hs : Seen w A k) (hK : Table w) :
    Calls Tryd.prog 4 #[.slice A n cap, .agg #[.int .i64 s, .int .i64 r, .int .i64 N], .agg (vals nn).toArray] w fun e w' => e = .returned (.bool true) ∧ Below w.heap.size w w' := by
  have hq60 : q ≤ 60 := by omega
  have hcap : q ≤ cap := by omega
  have hb1 : Below w.heap.size w (w.alloc (.cells #[.int .i64 s, .int .i64 r, .int .i64 N] 36)) := (Below.refl _ _).alloc (Nat.le_refl _) _
  have hS0 : St w s r N nn ((w.alloc (.cells #[.int .i64 s, .int .i64 r, .int .i64 N] 36)).alloc (.cells (vals nn).toArray 29)) := by
    refine ⟨hb1.alloc hb1.size _, (Arr.new_at w [.int .i64 s, .int .i64 r, .int .i64 N] _ _ rfl).alloc _, ?_⟩
    have := Arr.new (w.alloc (.cells #[.int .i64 s, .int .i64 r, .int .i64 N] 36)) (vals nn) 29
    rw [World.size_alloc] at this
    exact this
  have b1 := low_byte s
  have b2 := low_byte r
  have b3 := low_byte (N / 16777216)
  have b4 := low_byte (N / 65536)
  have b5 := low_byte (N / 256)
  have b6 := low_byte N
  have e4 : Unit → nonceB k s N = tagB k [78, u8i s, u8i (N / 16777216), u8i (N / 65536), u8i (N / 256), u8i N] := fun _ => by rw [nonceB, low_four]
  have e1 : Unit → proofB k s r nn = tagB k (80 :: u8i s :: u8i r :: nn) := fun _ => rfl
  have e2 : Unit → keyW k s r nn = macB k (75 :: u8i s :: u8i r :: nn) := fun _ => rfl
  have hv8 : (vals nn).length = 8 := by rw [vals_len, h8]
  generalize u8i s = us at b1 e1 e2 e4
  generalize u8i r = ur at b2 e1 e2
  generalize u8i (N / 16777216) = u3 at b3 e4
  generalize u8i (N / 65536) = u4' at b4 e4
  generalize u8i (N / 256) = u5' at b5 e4
  generalize u8i N = u6' at b6 e4
  have l1 := UInt8.toNat_lt us
  have l2 := UInt8.toNat_lt ur
  have l3 := UInt8.toNat_lt u3
  have l4 := UInt8.toNat_lt u4'
  have l5 := UInt8.toNat_lt u5'
  have l6 := UInt8.toNat_lt u6'
  replace hk := Lib.hid hk
  replace hq := Lib.hid hq
  replace h8 := Lib.hid h8
  replace hv8 := Lib.hid hv8
  replace hN := Lib.hid hN
  clear hb1
  go_enter Tryd.func4, Tryd.ntmps4
  try dsimp only [List.append]
  go_wp2_with fail
  have hK0 := hK.since hS0.1
  (with_reducible refine (sealed.shown_any H _ hK0).mono ?_)
  rintro e w1 ⟨rfl, hw1⟩
  have hS1 := hS0.since hw1
  clear hS0 hw1 hK0
  go_wp2_with fail
  (with_reducible refine (sealed.few_ok A n cap q _ hc hq.out).mono ?_)
  rintro e w' ⟨rfl, rfl⟩
  have c0 := hS1.2.1.cell (i := 0) rfl
  have c1 := hS1.2.1.cell (i := 1) rfl
  have c2 := hS1.2.1.cell (i := 2) rfl
  go_wp2_with (guard_target =~ wpList _ _ _ (Oper.mk _ (Op.load 29 (Operand.tmp 5)) _ _ _ _ :: _) _ _; refine wpList_load_arr 8 rfl rfl rfl hS1.2.2 (by kernel_rfl) hv8.out ?_)
  refine (H.proof A q cap k nn s r _ hk.out hcap (by omega) h8.out (hs.since hS1.1) (hK.since hS1.1)).mono ?_
  rintro e wa1 ⟨rfl, hb⟩
  have hSa := hS1.since hb
  have hM1 : Hid ((proofB k s r nn).length = 8) := Lib.hid (tagB_len _ _)
  have hF := Arr.new wa1 z8b 29
  have hlt := hSa.lt
  clear hS1 hb c0 c1 c2
  go_wp2_with (guard_target =~ wpList _ _ _ (Oper.mk _ (Op.store 29 _ _) _ _ _ _ :: _) _ _; refine wpList_store_arr (cs' := vals (proofB k s r nn)) 8 rfl rfl rfl rfl hF (by kernel_rfl) (by simp [z8b]) (by rw [vals_len, hM1.out]) (vals_one _) ?_)
  intro wb1 hR1 ho hb hsz
  have hS1 := (hSa.alloc (.cells z8b.toArray 29)).store ho hb hlt
  clear hSa hF hlt ho hb hsz
  have c0 := hS1.2.1.cell (i := 0) rfl
  have c1 := hS1.2.1.cell (i := 1) rfl
  have c2 := hS1.2.1.cell (i := 2) rfl
  have hS2 := hS1.alloc (.cells #[.int .u8 80, .int .u8 (us.toNat : Int), .int .u8 (ur.toNat : Int)] 5)
  have hh := (Held.lit wb1 [80, us, ur] #[.int .u8 80, .int .u8 (us.toNat : Int), .int .u8 (ur.toNat : Int)] (by simp [vals]) (by simp [maxLen])).own (base := wb1.heap.size) (Nat.le_refl _)
  have hsn := Arr.seen hS2.2.2
  have hcut := cut_all8 (w.heap.size + 1)
  have hz2 := hS2.1.size
  have hlt := hS1.lt
  have hR1' := hR1.alloc (.cells #[.int .u8 80, .int .u8 (us.toNat : Int), .int .u8 (ur.toNat : Int)] 5)
  have lthR1 := hR1.lt
  go_wp2_with (at_builtin; refine wpList_append_own_any _ rfl _ _ rfl wb1.heap.size _ [80, us, ur] rfl hh (some ⟨w.heap.size + 1, 0, none⟩) 8 8 rfl nn h8.out hsn (by rw [h8.out]; simp) (by simp) ?_)
  intro v3 w3 ho3 hg3 hat3
  have hS3 := hS2.grown hg3 hh hlt
  have hR13 := hR1'.of_block (hg3.block _ hR1'.lt (fun e => by have := (hh.lt e.symm).1; omega))
  clear hR1 hR1'
  have hR1 := hR13
  clear hR13 lthR1
  have hL3 : ([80, us, ur] ++ nn).length = 11 := by simp [h8.out]
  obtain ⟨A3, c3, rfl, hc3, s3⟩ := own_cap ho3 hL3
  replace hL3 := Lib.hid hL3
  clear hS1 hS2 hh hsn hcut hg3 hat3 ho3 hz2 hlt
  have hS1 := hS3
  clear hS3
  go_wp2_with fail
  refine (tag_ok A A3 q cap 11 c3 k _ _ hk.out hL3.out (by omega) (by decide) (hs.since hS1.1) s3 (hK.since hS1.1)).mono ?_
  rintro e wa2 ⟨rfl, hb⟩
  have hSa := hS1.since hb
  have hR1' := hR1.since hb
  clear hR1
  have hR1 := hR1'
  clear hR1'
  have hM2 : Hid ((tagB k ([80, us, ur] ++ nn)).length = 8) := Lib.hid (tagB_len _ _)
  have hF := Arr.new wa2 z8b 29
  have hlt := hSa.lt
  have lthR1 := hR1.lt
  clear hS1 hb c0 c1 c2
  go_wp2_with (guard_target =~ wpList _ _ _ (Oper.mk _ (Op.store 29 _ _) _ _ _ _ :: _) _ _; refine wpList_store_arr (cs' := vals (tagB k ([80, us, ur] ++ nn))) 8 rfl rfl rfl rfl hF (by kernel_rfl) (by simp [z8b]) (by rw [vals_len, hM2.out]) (vals_one _) ?_)
  intro wb2 hR2 ho hb hsz
  have hS1 := (hSa.alloc (.cells z8b.toArray 29)).store ho hb hlt
  have hR1' := (hR1.alloc (.cells z8b.toArray 29)).of_block (ho _ (by omega))
  clear hR1
  have hR1 := hR1'
  clear hR1'
  clear lthR1
  clear hSa hF hlt ho hb hsz
  have c0 := hS1.2.1.cell (i := 0) rfl
  have c1 := hS1.2.1.cell (i := 1) rfl
  have c2 := hS1.2.1.cell (i := 2) rfl
  clear s3 hL3 hc3
  go_wp2_with (guard_target =~ wpList _ _ _ (Oper.mk _ (Op.load 29 (Operand.tmp 5)) _ _ _ _ :: _) _ _; refine wpList_load_arr 8 rfl rfl rfl hS1.2.2 (by kernel_rfl) hv8.out ?_)
  refine (H.key A q cap k nn s r _ hk.out hcap (by omega) h8.out (hs.since hS1.1) (hK.since hS1.1)).mono ?_
  rintro e wa3 ⟨rfl, hb⟩
  have hSa := hS1.since hb
  have hR1' := hR1.since hb
  clear hR1
  have hR1 := hR1'
  clear hR1'
  have hR2' := hR2.since hb
  clear hR2
  have hR2 := hR2'
  clear hR2'
  have hM3 : Hid ((keyW k s r nn).length = 32) := Lib.hid (macB_len _ _)
  have hF := Arr.new wa3 z32 22
  have hlt := hSa.lt
  have lthR1 := hR1.lt
  have lthR2 := hR2.lt
  clear hS1 hb c0 c1 c2
  go_wp2_with (guard_target =~ wpList _ _ _ (Oper.mk _ (Op.store 22 _ _) _ _ _ _ :: _) _ _; refine wpList_store_arr (cs' := vals (keyW k s r nn)) 32 rfl rfl rfl rfl hF (by kernel_rfl) (by simp [z32]) (by rw [vals_len, hM3.out]) (vals_one _) ?_)
  intro wb3 hR3 ho hb hsz
  have hS1 := (hSa.alloc (.cells z32.toArray 22)).store ho hb hlt
  have hR1' := (hR1.alloc (.cells z32.toArray 22)).of_block (ho _ (by omega))
  clear hR1
  have hR1 := hR1'
  clear hR1'
  have hR2' := (hR2.alloc (.cells z32.toArray 22)).of_block (ho _ (by omega))
  clear hR2
  have hR2 := hR2'
  clear hR2'
  clear lthR1
  clear lthR2
  clear hSa hF hlt ho hb hsz
  have c0 := hS1.2.1.cell (i := 0) rfl
  have c1 := hS1.2.1.cell (i := 1) rfl
  have c2 := hS1.2.1.cell (i := 2) rfl
  have hS2 := hS1.alloc (.cells #[.int .u8 75, .int .u8 (us.toNat : Int), .int .u8 (ur.toNat : Int)] 5)
  have hh := (Held.lit wb3 [75, us, ur] #[.int .u8 75, .int .u8 (us.toNat : Int), .int .u8 (ur.toNat : Int)] (by simp [vals]) (by simp [maxLen])).own (base := wb3.heap.size) (Nat.le_refl _)
  have hsn := Arr.seen hS2.2.2
  have hcut := cut_all8 (w.heap.size + 1)
  have hz2 := hS2.1.size
  have hlt := hS1.lt
  have hR1' := hR1.alloc (.cells #[.int .u8 75, .int .u8 (us.toNat : Int), .int .u8 (ur.toNat : Int)] 5)
  have lthR1 := hR1.lt
  have hR2' := hR2.alloc (.cells #[.int .u8 75, .int .u8 (us.toNat : Int), .int .u8 (ur.toNat : Int)] 5)
  have lthR2 := hR2.lt
  have hR3' := hR3.alloc (.cells #[.int .u8 75, .int .u8 (us.toNat : Int), .int .u8 (ur.toNat : Int)] 5)
  have lthR3 := hR3.lt
  go_wp2_with (at_builtin; refine wpList_append_own_any _ rfl _ _ rfl wb3.heap.size _ [75, us, ur] rfl hh (some ⟨w.heap.size + 1, 0, none⟩) 8 8 rfl nn h8.out hsn (by rw [h8.out]; simp) (by simp) ?_)
  intro v3 w3 ho3 hg3 hat3
  have hS3 := hS2.grown hg3 hh hlt
  have hR13 := hR1'.of_block (hg3.block _ hR1'.lt (fun e => by have := (hh.lt e.symm).1; omega))
  clear hR1 hR1'
  have hR1 := hR13
  clear hR13 lthR1
  have hR23 := hR2'.of_block (hg3.block _ hR2'.lt (fun e => by have := (hh.lt e.symm).1; omega))
  clear hR2 hR2'
  have hR2 := hR23
  clear hR23 lthR2
  have hR33 := hR3'.of_block (hg3.block _ hR3'.lt (fun e => by have := (hh.lt e.symm).1; omega))
  clear hR3 hR3'
  have hR3 := hR33
  clear hR33 lthR3
  have hL3 : ([75, us, ur] ++ nn).length = 11 := by simp [h8.out]
  obtain ⟨A3, c3, rfl, hc3, s3⟩ := own_cap ho3 hL3
  replace hL3 := Lib.hid hL3
  clear hS1 hS2 hh hsn hcut hg3 hat3 ho3 hz2 hlt
  have hS1 := hS3
  clear hS3
  go_wp2_with fail
  refine (of_ok A A3 q cap 11 c3 k _ _ hk.out hL3.out (by omega) (by decide) (hs.since hS1.1) s3 (hK.since hS1.1)).mono ?_
  rintro e wa4 ⟨rfl, hb⟩
  have hSa := hS1.since hb
  have hR1' := hR1.since hb
  clear hR1
  have hR1 := hR1'
  clear hR1'
  have hR2' := hR2.since hb
  clear hR2
  have hR2 := hR2'
  clear hR2'
  have hR3' := hR3.since hb
  clear hR3
  have hR3 := hR3'
  clear hR3'
  have hM4 : Hid ((macB k ([75, us, ur] ++ nn)).length = 32) := Lib.hid (macB_len _ _)
  have hF := Arr.new wa4 z32 22
  have hlt := hSa.lt
  have lthR1 := hR1.lt
  have lthR2 := hR2.lt
  have lthR3 := hR3.lt
  clear hS1 hb c0 c1 c2
  go_wp2_with (guard_target =~ wpList _ _ _ (Oper.mk _ (Op.store 22 _ _) _ _ _ _ :: _) _ _; refine wpList_store_arr (cs' := vals (macB k ([75, us, ur] ++ nn))) 32 rfl rfl rfl rfl hF (by kernel_rfl) (by simp [z32]) (by rw [vals_len, hM4.out]) (vals_one _) ?_)
  intro wb4 hR4 ho hb hsz
  have hS1 := (hSa.alloc (.cells z32.toArray 22)).store ho hb hlt
  have hR1' := (hR1.alloc (.cells z32.toArray 22)).of_block (ho _ (by omega))
  clear hR1
  have hR1 := hR1'
  clear hR1'
  have hR2' := (hR2.alloc (.cells z32.toArray 22)).of_block (ho _ (by omega))
  clear hR2
  have hR2 := hR2'
  clear hR2'
  have hR3' := (hR3.alloc (.cells z32.toArray 22)).of_block (ho _ (by omega))
  clear hR3
  have hR3 := hR3'
  clear hR3'
  clear lthR1
  clear lthR2
  clear lthR3
  clear hSa hF hlt ho hb hsz
  have c0 := hS1.2.1.cell (i := 0) rfl
  have c1 := hS1.2.1.cell (i := 1) rfl
  have c2 := hS1.2.1.cell (i := 2) rfl
  clear s3 hL3 hc3
  go_wp2_with fail
  refine (H.nonce A q cap k s N _ hk.out hcap (by omega) (hs.since hS1.1) (hK.since hS1.1) hN.out.1 hN.out.2).mono ?_
  rintro e wa5 ⟨rfl, hb⟩
  have hSa := hS1.since hb
  have hR1' := hR1.since hb
  clear hR1
  have hR1 := hR1'
  clear hR1'
  have hR2' := hR2.since hb
  clear hR2
  have hR2 := hR2'
  clear hR2'
  have hR3' := hR3.since hb
  clear hR3
  have hR3 := hR3'
  clear hR3'
  have hR4' := hR4.since hb
  clear hR4
  have hR4 := hR4'
  clear hR4'
  have hM5 : Hid ((nonceB k s N).length = 8) := Lib.hid (tagB_len _ _)
  have hF := Arr.new wa5 z8b 29
  have hlt := hSa.lt
  have lthR1 := hR1.lt
  have lthR2 := hR2.lt
  have lthR3 := hR3.lt
  have lthR4 := hR4.lt
  clear hS1 hb c0 c1 c2
  go_wp2_with (guard_target =~ wpList _ _ _ (Oper.mk _ (Op.store 29 _ _) _ _ _ _ :: _) _ _; refine wpList_store_arr (cs' := vals (nonceB k s N)) 8 rfl rfl rfl rfl hF (by kernel_rfl) (by simp [z8b]) (by rw [vals_len, hM5.out]) (vals_one _) ?_)
  intro wb5 hR5 ho hb hsz
  have hS1 := (hSa.alloc (.cells z8b.toArray 29)).store ho hb hlt
  have hR1' := (hR1.alloc (.cells z8b.toArray 29)).of_block (ho _ (by omega))
  clear hR1
  have hR1 := hR1'
  clear hR1'
  have hR2' := (hR2.alloc (.cells z8b.toArray 29)).of_block (ho _ (by omega))
  clear hR2
  have hR2 := hR2'
  clear hR2'
  have hR3' := (hR3.alloc (.cells z8b.toArray 29)).of_block (ho _ (by omega))
  clear hR3
  have hR3 := hR3'
  clear hR3'
  have hR4' := (hR4.alloc (.cells z8b.toArray 29)).of_block (ho _ (by omega))
  clear hR4
  have hR4 := hR4'
  clear hR4'
  clear lthR1
  clear lthR2
  clear lthR3
  clear lthR4
  clear hSa hF hlt ho hb hsz
  have c0 := hS1.2.1.cell (i := 0) rfl
  have c1 := hS1.2.1.cell (i := 1) rfl
  have c2 := hS1.2.1.cell (i := 2) rfl
  have hS2 := hS1.alloc (.cells #[.int .u8 78, .int .u8 (us.toNat : Int), .int .u8 (u3.toNat : Int), .int .u8 (u4'.toNat : Int), .int .u8 (u5'.toNat : Int), .int .u8 (u6'.toNat : Int)] 5)
  have s3 := (Held.lit wb5 [78, us, u3, u4', u5', u6'] #[.int .u8 78, .int .u8 (us.toNat : Int), .int .u8 (u3.toNat : Int), .int .u8 (u4'.toNat : Int), .int .u8 (u5'.toNat : Int), .int .u8 (u6'.toNat : Int)] (by simp [vals]) (by simp [maxLen])).seen
  have hR1' := hR1.alloc (.cells #[.int .u8 78, .int .u8 (us.toNat : Int), .int .u8 (u3.toNat : Int), .int .u8 (u4'.toNat : Int), .int .u8 (u5'.toNat : Int), .int .u8 (u6'.toNat : Int)] 5)
  clear hR1
  have hR1 := hR1'
  clear hR1'
  have hR2' := hR2.alloc (.cells #[.int .u8 78, .int .u8 (us.toNat : Int), .int .u8 (u3.toNat : Int), .int .u8 (u4'.toNat : Int), .int .u8 (u5'.toNat : Int), .int .u8 (u6'.toNat : Int)] 5)
  clear hR2
  have hR2 := hR2'
  clear hR2'
  have hR3' := hR3.alloc (.cells #[.int .u8 78, .int .u8 (us.toNat : Int), .int .u8 (u3.toNat : Int), .int .u8 (u4'.toNat : Int), .int .u8 (u5'.toNat : Int), .int .u8 (u6'.toNat : Int)] 5)
  clear hR3
  have hR3 := hR3'
  clear hR3'
  have hR4' := hR4.alloc (.cells #[.int .u8 78, .int .u8 (us.toNat : Int), .int .u8 (u3.toNat : Int), .int .u8 (u4'.toNat : Int), .int .u8 (u5'.toNat : Int), .int .u8 (u6'.toNat : Int)] 5)
  clear hR4
  have hR4 := hR4'
  clear hR4'
  have hR5' := hR5.alloc (.cells #[.int .u8 78, .int .u8 (us.toNat : Int), .int .u8 (u3.toNat : Int), .int .u8 (u4'.toNat : Int), .int .u8 (u5'.toNat : Int), .int .u8 (u6'.toNat : Int)] 5)
  clear hR5
  have hR5 := hR5'
  clear hR5'
  go_wp2_with fail
  clear hS1
  have hS1 := hS2
  clear hS2
  refine (tag_ok A _ q cap 6 6 k _ _ hk.out rfl (by omega) (by decide) (hs.since hS1.1) s3 (hK.since hS1.1)).mono ?_
  rintro e wa6 ⟨rfl, hb⟩
  have hSa := hS1.since hb
  have hR1' := hR1.since hb
  clear hR1
  have hR1 := hR1'
  clear hR1'
  have hR2' := hR2.since hb
  clear hR2
  have hR2 := hR2'
  clear hR2'
  have hR3' := hR3.since hb
  clear hR3
  have hR3 := hR3'
  clear hR3'
  have hR4' := hR4.since hb
  clear hR4
  have hR4 := hR4'
  clear hR4'
  have hR5' := hR5.since hb
  clear hR5
  have hR5 := hR5'
  clear hR5'
  have hM6 : Hid ((tagB k [78, us, u3, u4', u5', u6']).length = 8) := Lib.hid (tagB_len _ _)
  have hF := Arr.new wa6 z8b 29
  have hlt := hSa.lt
  have lthR1 := hR1.lt
  have lthR2 := hR2.lt
  have lthR3 := hR3.lt
  have lthR4 := hR4.lt
  have lthR5 := hR5.lt
  clear hS1 hb c0 c1 c2
  go_wp2_with (guard_target =~ wpList _ _ _ (Oper.mk _ (Op.store 29 _ _) _ _ _ _ :: _) _ _; refine wpList_store_arr (cs' := vals (tagB k [78, us, u3, u4', u5', u6'])) 8 rfl rfl rfl rfl hF (by kernel_rfl) (by simp [z8b]) (by rw [vals_len, hM6.out]) (vals_one _) ?_)
  intro wb6 hR6 ho hb hsz
  have hS1 := (hSa.alloc (.cells z8b.toArray 29)).store ho hb hlt
  have hR1' := (hR1.alloc (.cells z8b.toArray 29)).of_block (ho _ (by omega))
  clear hR1
  have hR1 := hR1'
  clear hR1'
  have hR2' := (hR2.alloc (.cells z8b.toArray 29)).of_block (ho _ (by omega))
  clear hR2
  have hR2 := hR2'
  clear hR2'
  have hR3' := (hR3.alloc (.cells z8b.toArray 29)).of_block (ho _ (by omega))
  clear hR3
  have hR3 := hR3'
  clear hR3'
  have hR4' := (hR4.alloc (.cells z8b.toArray 29)).of_block (ho _ (by omega))
  clear hR4
  have hR4 := hR4'
  clear hR4'
  have hR5' := (hR5.alloc (.cells z8b.toArray 29)).of_block (ho _ (by omega))
  clear hR5
  have hR5 := hR5'
  clear hR5'
  clear lthR1
  clear lthR2
  clear lthR3
  clear lthR4
  clear lthR5
  clear hSa hF hlt ho hb hsz
  have c0 := hS1.2.1.cell (i := 0) rfl
  have c1 := hS1.2.1.cell (i := 1) rfl
  have c2 := hS1.2.1.cell (i := 2) rfl
  have g1 := fun W => eql_own 8 29 Tryd.underlying29 (proofB k s r nn) hM1.out W
  have g2 := fun W => eql_own 32 22 Tryd.underlying22 (keyW k s r nn) hM3.out W
  have g3 := fun W => eql_own 8 29 Tryd.underlying29 (nonceB k s N) hM5.out W
  replace hM2 : Hid ((tagB k (80 :: us :: ur :: nn)).length = 8) := hM2
  replace hM4 : Hid ((macB k (75 :: us :: ur :: nn)).length = 32) := hM4
  rw [← e1 ()] at hR2 hM2
  rw [← e2 ()] at hR4 hM4
  rw [← e4 ()] at hR6 hM6
  generalize proofB k s r nn = P at hR1 hR2 hM1 hM2 g1
  generalize keyW k s r nn = Q at hR3 hR4 hM3 hM4 g2
  generalize nonceB k s N = Z at hR5 hR6 hM5 hM6 g3
  have hw := hS1.1
  clear hS1 c0 c1 c2 e1 e2 e4 s3 b1 b2 b3 b4 b5 b6
  go_wp2_with (first
    | (guard_target =~ wpList _ _ _ (Oper.mk _ (Op.load 29 (Operand.tmp 11)) _ _ _ _ :: _) _ _; refine wpList_load_arr_any 8 rfl rfl rfl hR1 (by kernel_rfl) (by rw [vals_len, hM1.out]) ?_)
    | (guard_target =~ wpList _ _ _ (Oper.mk _ (Op.load 29 (Operand.tmp 12)) _ _ _ _ :: _) _ _; refine wpList_load_arr_any 8 rfl rfl rfl hR2 (by kernel_rfl) (by rw [vals_len, hM2.out]) ?_)
    | (guard_target =~ wpList _ _ _ (Oper.mk _ (Op.load 22 (Operand.tmp 13)) _ _ _ _ :: _) _ _; refine wpList_load_arr_any 32 rfl rfl rfl hR3 (by kernel_rfl) (by rw [vals_len, hM3.out]) ?_)
    | (guard_target =~ wpList _ _ _ (Oper.mk _ (Op.load 22 (Operand.tmp 14)) _ _ _ _ :: _) _ _; refine wpList_load_arr_any 32 rfl rfl rfl hR4 (by kernel_rfl) (by rw [vals_len, hM4.out]) ?_)
    | (guard_target =~ wpList _ _ _ (Oper.mk _ (Op.load 29 (Operand.tmp 15)) _ _ _ _ :: _) _ _; refine wpList_load_arr_any 8 rfl rfl rfl hR5 (by kernel_rfl) (by rw [vals_len, hM5.out]) ?_)
    | (guard_target =~ wpList _ _ _ (Oper.mk _ (Op.load 29 (Operand.tmp 16)) _ _ _ _ :: _) _ _; refine wpList_load_arr_any 8 rfl rfl rfl hR6 (by kernel_rfl) (by rw [vals_len, hM6.out]) ?_))
  go_ret
  exact ⟨rfl, hw⟩
theorem wf64 {n : Int} (h : (Lit.int .i64 n).wf = true) : -9223372036854775808 ≤ n ∧ n ≤ 9223372036854775807 := by simpa [Lit.wf, IntKind.min, IntKind.max, IntKind.signed, IntKind.bits] using h
/-- bytes that came in as an array -/
theorem bytes_came {zs : List Int} (h : ∀ z ∈ zs, (Lit.int .u8 z).wf = true) : ∃ l : List UInt8, l.length = zs.length ∧ zs.map (Value.int .u8) = vals l := by
  refine ⟨zs.map fun z => UInt8.ofNat z.toNat, by simp, ?_⟩
  unfold vals
  rw [List.map_map]
  refine List.map_congr_left fun z hz => ?_
  have hb : 0 ≤ z ∧ z ≤ 255 := by simpa [Lit.wf, IntKind.min, IntKind.max, IntKind.signed, IntKind.bits] using h z hz
  show Value.int .u8 z = .int .u8 ((UInt8.ofNat z.toNat).toNat : Int)
  rw [UInt8.toNat_ofNat']
  congr 1
  omega
theorem who_came {w : World} {base : Nat} {v : Value} (h : Value.okWide Tryd.prog w .any base 36 v) : ∃ s r N, v = .agg #[.int .i64 s, .int .i64 r, .int .i64 N] ∧ (Lit.int .i64 s).wf = true ∧ (Lit.int .i64 r).wf = true ∧ (Lit.int .i64 N).wf = true := by
  obtain ⟨cs, rfl, hn, hk⟩ := agg_cells (ts := [3, 3, 3]) (Or.inr ⟨_, Tryd.underlying36⟩) (by kernel_rfl) (by kernel_rfl) h
  match cs, hn with
  | ⟨[c0, c1, c2]⟩, _ =>
    obtain ⟨x0, i0, k0⟩ := hk 0 c0 rfl
    obtain ⟨x1, i1, k1⟩ := hk 1 c1 rfl
    obtain ⟨x2, i2, k2⟩ := hk 2 c2 rfl
    obtain rfl : 3 = x0 := by injection i0
    obtain rfl : 3 = x1 := by injection i1
    obtain rfl : 3 = x2 := by injection i2
    obtain ⟨s, rfl, hs⟩ := int_of_cell Tryd.underlying3 k0
    obtain ⟨r, rfl, hr⟩ := int_of_cell Tryd.underlying3 k1
    obtain ⟨N, rfl, hN⟩ := int_of_cell Tryd.underlying3 k2
    exact ⟨s, r, N, rfl, hs, hr, hN⟩
theorem apart_given (H : sealed.CodeOk) (a : Option Addr) (len cap : Nat) (z : List Int) (v1 v2 : Value) (w : World) {base : Nat} (w0 : Nums .u8 w a len cap z) (h1 : Value.okWide Tryd.prog w .any base 36 v1) (h2 : Value.okWide Tryd.prog w .any base 29 v2) (hK : Table w) :
    Calls Tryd.prog 4 #[.slice a len cap, v1, v2] w fun e w' => e = .returned (.bool true) ∧ Below w.heap.size w w' := by
  obtain ⟨l, rfl, hl, hcap⟩ := seen_nums w0
  obtain ⟨s, r, N, rfl, hs, hr, hN⟩ := who_came h1
  obtain ⟨zs, rfl, hzl, hzw⟩ := ints_came 8 .u8 Tryd.underlying29 Tryd.underlying5 (by kernel_rfl) (by kernel_rfl) h2
  obtain ⟨nn, hnl, hnv⟩ := bytes_came hzw
  rw [hnv]
  exact apart_core H a _ cap _ (l.take 60) nn s r N w (wf64 hN) rfl hcap (by simp; omega) (by omega) (hl.take 60) hK
end Go.Proofs.YtmgfgbdfmdblhaaDoor.walks
