/-
  MORE LAWS OF BYTES AND ARRAYS IN MEMORY, for whatever layer. No function of the program.
-/
import Derived.Test.YtjpfdpjkffkleaaArr
import Derived.Test.YtjpfdpjkffkleaaSeen
import Derived.Lib.AppendZeros
import Derived.BigQuiet
import Derived.Deep.QuietTactic
namespace Go.Proofs.Ytjpfdpjkffkleaa.octets
open Go.RowKit
set_option linter.unusedVariables false

theorem Arr.seen {w : World} {b : Nat} {l : List UInt8} (h : Arr w b (vals l)) : Seen w (some ⟨b, 0, none⟩) l := by
  intro _
  refine ⟨b, 0, rfl, h.lt, fun i hi => ?_⟩
  rw [Nat.zero_add]
  exact h.cell (vals_get hi)
theorem vals_at {l : List UInt8} {i : Nat} {y : UInt8} (h : l[i]? = some y) : (vals l)[i]? = some (.int .u8 (y.toNat : Int)) := by simp [vals, h]

theorem below_drawn {B : Nat} {a w : World} (h : Below B a w) (n : Nat) : Below B a (w.drewN n) := ⟨h.os, h.tape, h.output, h.size, h.block⟩
theorem wp_store_arr {P : Program} {o : Oper} {a : Act} {w : World} {K : Act → World → Prop} {Q : Exit → Act → World → Prop} {ty : TypeId} {x y : Operand} {b : Nat} {cs cs' : List Value} (n : Nat) (ho : o.op = .store ty x y)
    (hx : a.eval x = .pointer (some ⟨b, 0, none⟩)) (hy : a.eval y = .agg cs'.toArray) (hA : Arr w b cs) (hr : rowB P ty n = true) (hn : cs.length = n) (hn' : cs'.length = n) (h1 : ∀ v ∈ cs', v.oneCell' = true)
    (h : ∀ w', Arr w' b cs' → (∀ k, k ≠ b → w'.heap[k]? = w.heap[k]?) → Below b w w' → w'.heap.size = w.heap.size → K (a.put o.dst undef) w') : o.wp P a w K Q := by
  obtain ⟨d, _, _, h3⟩ := rowB_spec hr
  refine wp_store_mid ty x y ho b 0 cs'.toArray hx hy ?_ (by rw [h3]; simp [hn']) (all_oneCell_toArray h1) ?_
  · have := hA.there
    simpa [hn, hn'] using this
  · exact h _ (hA.setAll cs' (by rw [hn, hn'])) (fun k hk => setCells_other b k hk _ _ _) (setCells_below b (Nat.le_refl _) _ _ _ (Below.refl _ _)) (setCells_size _ _ _ _)
theorem two_first (w : World) (u v : Value) (t : TypeId) (fz : Nat × Nat) : (w.alloc (.cells #[u, v] t fz)).cell? ⟨w.heap.size, 0, none⟩ = some u := by
  have hb : (w.alloc (.cells #[u, v] t fz)).heap[w.heap.size]? = some (.cells #[u, v] t fz) := Go.Deep.blk_alloc_new _ _
  unfold World.cell?
  simp only [hb]
  rfl
theorem two_second (w : World) (u v : Value) (t : TypeId) (fz : Nat × Nat) : (w.alloc (.cells #[u, v] t fz)).cell? ⟨w.heap.size, 1, none⟩ = some v := by
  have hb : (w.alloc (.cells #[u, v] t fz)).heap[w.heap.size]? = some (.cells #[u, v] t fz) := Go.Deep.blk_alloc_new _ _
  unfold World.cell?
  simp only [hb]
  rfl
/-- the load of the first n of a block -/
theorem wpList_load_first {P : Program} {ops : Array Oper} {rest : List Oper} {o : Oper} {a : Act} {w : World} {Q : Exit → Act → World → Prop} {ty : TypeId} {x : Operand} {b : Nat} {cs : List Value} (cs' : List Value) (n : Nat) (hgd : o.guard = none) (ho : o.op = .load ty x)
    (hx : a.eval x = .pointer (some ⟨b, 0, none⟩)) (hA : Arr w b cs) (hr : rowB P ty n = true) (hn : n ≤ cs.length) (hcs : cs.take n = cs') (h : wpList P ops Q rest (a.put o.dst (.agg cs'.toArray)) w) : wpList P ops Q (o :: rest) a w := by
  subst hcs
  obtain ⟨d, h1, h2, h3⟩ := rowB_spec hr
  have hp : w.rangeAt b 0 (cs.take n) := by simpa using hA.part 0 n
  exact wpList_load_mid hgd ty x ho b 0 hx (cs.take n) d hp h1 h2 (by rw [h3, List.length_take, Nat.min_eq_left hn]) h
theorem vals_take (l : List UInt8) (n : Nat) : (vals l).take n = vals (l.take n) := by rw [vals, vals, List.map_take]
/-- two slices of the call's own that lie apart -/
def Apart (u v : Value) : Prop := ∀ g, u.ownBlock = some g → v.ownBlock ≠ some g
theorem Apart.symm {u v : Value} (h : Apart u v) : Apart v u := fun g hv hu => h g hu hv
theorem Apart.next {w : World} {base : Nat} {u u' v : Value} {l : List UInt8} (h : Apart u v) (hv : Own w base v l) (ho : u'.ownBlock = u.ownBlock ∨ u'.ownBlock = some w.heap.size) : Apart u' v := by
  intro g hg hv'
  rcases ho with e | e
  · exact h g (e ▸ hg) hv'
  · rw [e] at hg
    obtain rfl := Option.some.inj hg
    have := (hv.lt hv').2
    omega
theorem Apart.row {u v : Value} (h : Apart u v) : ∀ g, v.ownBlock = some g → some g ≠ u.ownBlock := fun g hg e => h g e.symm hg
theorem own_below {w w' : World} {base : Nat} {v : Value} {l : List UInt8} (h : Own w base v l) (hb : base ≤ w.heap.size) (hg : w.grownBy w' v.ownBlock) : Below base w w' := h.grew (Below.refl _ _) (Nat.le_refl _) hb hg
/-- j noughts behind it -/
def nl (L : List UInt8) (j : Nat) : List UInt8 := L ++ List.replicate j 0
theorem nl_zero (L : List UInt8) : nl L 0 = L := by simp [nl]
theorem nl_step (L : List UInt8) (j : Nat) : nl L j ++ [0] = nl L (j + 1) := by rw [nl, nl, List.append_assoc, List.replicate_succ']
theorem nl_len (L : List UInt8) (j : Nat) : (nl L j).length = L.length + j := by simp [nl]
theorem quiet_drew {f : FuncId} {args : Array Value} {w : World} {n : Nat} {v : Value} (h : Calls Try.prog f args (w.drewN n) fun e w' => e = .returned v ∧ ∃ q, w' = (w.drewN n).drewN q) :
    Calls Try.prog f args (w.drewN n) fun e w'' => e = .returned v ∧ ∃ m, w'' = w.drewN m := h.mono fun _ _ ⟨he, q, hm⟩ => ⟨he, n + q, by rw [hm]; exact World.drewN_drewN ..⟩
end Go.Proofs.Ytjpfdpjkffkleaa.octets
