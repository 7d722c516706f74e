/-
  THE CONTRACT OF THE REFERENCE's Sum.
-/
import Derived.Test.YtmgfgbdfmdblhaaDoorShaSum
import Derived.Test.YtmgfgbdfmdblhaaDoorShaRBlock
namespace Go.Proofs.YtmgfgbdfmdblhaaDoor.sha
open Go.RowKit Go.Proofs.YtmgfgbdfmdblhaaDoor.octets
set_option linter.unusedVariables false
/-- 'p[at:at+64]' -/
theorem cut_win (b n k c : Nat) (h : k + 64 ≤ c) (W : World) : (Instr.slice 23 (.slice (some ⟨b, 0, none⟩) n c) (some (.int .i64 (k : Int))) (some (.int .i64 ((k + 64 : Nat) : Int))) none).run Tryd.prog W = .ok (.slice (some ⟨b, k, none⟩) 64 (c - k)) W := by
  have he : (Tryd.prog).elem 23 = 5 := by simp [Program.elem, Tryd.underlying23]
  have ht : (Tryd.prog).underlying 23 = some (.slice ((Tryd.prog).elem 23)) := by rw [he]; exact Tryd.underlying23
  have h1 : ¬ c = k := by omega
  rw [run_slice_lh W _ _ _ _ ht .i64 .i64 (k : Int) ((k + 64 : Nat) : Int) (by omega) (by omega) (by omega), he, size_u8]
  have e1 : ((k + 64 : Nat) : Int).toNat = k + 64 := by omega
  have e2 : (k : Int).toNat = k := by omega
  rw [e1, e2]
  have e3 : k + 64 - k = 64 := by omega
  simp [Result.andThen, sliced, Addr.add, h1, e3]
  intro h; omega
/-- 'x[:]' -/
theorem cut_all (g : Nat) (W : World) : (Instr.sliceAt 47 (.pointer (some ⟨g, 0, none⟩)) none none none).run Tryd.prog W = .ok (.slice (some ⟨g, 0, none⟩) 64 64) W := by
  have hl : Tryd.prog.arrayLen 47 = 64 := by simp [Program.arrayLen, Tryd.underlying47]
  have he : Tryd.prog.elem 47 = 5 := by simp [Program.elem, Tryd.underlying47]
  have ht : Tryd.prog.underlying 47 = some (.array (Tryd.prog.arrayLen 47) (Tryd.prog.elem 47)) := by rw [hl, he]; exact Tryd.underlying47
  rw [run_sliceAt_array_all W _ _ ht, he, hl, size_u8]
  simp [Result.andThen, slicedAt, Addr.add]
def zb64 : List Value := List.replicate 64 (.int .u8 0)
/-- 'copy(x[:], p[k:k+64])' over a whole array -/
theorem wpList_copy_block (w : World) {ops : Array Oper} {rest : List Oper} {o : Oper} {a : Act} {Q : Exit → Act → World → Prop} (hgd : o.guard = none) (d s : Operand)
    (ho : o.op = .call { callee := .builtin .copy, args := #[d, s], argTypes := #[23, 23] })
    (g b k c cc : Nat) (hd : a.eval d = .slice (some ⟨g, 0, none⟩) 64 64) (hs : a.eval s = .slice (some ⟨b, k, none⟩) 64 cc) (zs : List Value) (hz : zs.length = 64) (hX : Arr w g zs) (l : List UInt8) (hp : Held w b c l) (hk : k + 64 ≤ l.length)
    (h : ∀ w', Arr w' g (vals ((l.drop k).take 64)) → Below g w w' → wpList Tryd.prog ops Q rest (a.put o.dst (goInt 64)) w') : wpList Tryd.prog ops Q (o :: rest) a w := by
  obtain ⟨t, hg⟩ := hX
  have hlen : (vals ((l.drop k).take 64)).length = 64 := by rw [vals_len, List.length_take, List.length_drop]; omega
  refine wpList_copy_splice hgd d s _ _ ho 5 Tryd.underlying23 (by kernel_rfl) _ _ _ _ _ _ hd hs g 0 zs t hg (vals ((l.drop k).take 64)) (by rw [hlen]; rfl) (fun _ => ⟨rfl, _, rfl, fun j v hv => ?_⟩) (by omega) (vals_one _) g w (Below.refl _ _) (Nat.le_refl _) ?_
  · rw [Addr.add_mid]; exact held_part hp k 64 j v hv
  · intro w' hg' hb'
    rw [hlen]
    refine h w' ⟨t, ?_⟩ hb'
    have e : splice zs 0 (vals ((l.drop k).take 64)) = vals ((l.drop k).take 64) := by
      generalize vals ((l.drop k).take 64) = X at hlen
      simp [splice, hlen, hz]
    rw [← e]
    exact hg'.out
/-- a row written from the front on -/
def fr (f : Nat → UInt8) (i : Nat) : List UInt8 := (List.range 32).map fun j => if j < i then f j else 0
theorem fr_len (f : Nat → UInt8) (i : Nat) : (fr f i).length = 32 := by simp [fr]
theorem fr_zero (f : Nat → UInt8) : fr f 0 = List.replicate 32 0 := by
  apply List.ext_getElem (by simp [fr])
  intro j h1 h2
  simp only [fr, List.getElem_map, List.getElem_range, List.getElem_replicate]
  rw [if_neg (by omega)]
theorem fr_set (f : Nat → UInt8) (i : Nat) (h : i < 32) : (fr f i).set i (f i) = fr f (i + 1) := by
  apply List.ext_getElem (by simp [fr])
  intro j h1 h2
  simp only [fr, List.getElem_set, List.getElem_map, List.getElem_range]
  by_cases e : i = j
  · subst e; rw [if_pos rfl, if_pos (by omega)]
  · rw [if_neg e]
    by_cases e2 : j < i
    · rw [if_pos e2, if_pos (by omega)]
    · rw [if_neg e2, if_neg (by omega)]
theorem fr_all (l : List UInt8) (hl : l.length = 32) : fr (fun j => l.getD j 0) 32 = l := by
  apply List.ext_getElem (by simp [fr, hl])
  intro j h1 h2
  have : j < 32 := by omega
  simp [fr, this, h2]
theorem byte_and32 (m : UInt32) (i : Nat) : bits BinOp.and IntKind.u32 ((m.toNat : Int) / 2 ^ (8 * i)) 255 = ((UInt8.ofNat (m.toNat / 256 ^ i)).toNat : Int) := by
  have e : (256 : Nat) ^ i = 2 ^ (8 * i) := by rw [Nat.pow_mul]
  have e2 : ((2 : Int) ^ (8 * i)) = ((2 ^ (8 * i) : Nat) : Int) := by rw [Int.natCast_pow]; rfl
  have hle : m.toNat / 2 ^ (8 * i) ≤ m.toNat := Nat.div_le_self _ _
  have hm := u_lt m
  rw [UInt8.toNat_ofNat', e, e2, ← Int.natCast_ediv]
  generalize m.toNat / 2 ^ (8 * i) = y at hle
  have h := u32_and_nat y 255 (by omega) (by decide)
  have e3 : y &&& 255 = y % 2 ^ 8 := Nat.and_two_pow_sub_one_eq_mod y 8
  rw [e3] at h
  exact h
end Go.Proofs.YtmgfgbdfmdblhaaDoor.sha
