/-
  ROWS OF WHOLE NUMBERS OF THE CALL's OWN, and 'append' to them. No function of the program.
-/
import Derived.Test.YtahfhanibiaimaaArr
namespace Go.Proofs.Ytahfhanibiaimaa.octets
open Go.RowKit
set_option linter.unusedVariables false
set_option linter.unusedSimpArgs false

def ints (l : List Int) : List Value := l.map (Value.int .i64)
theorem ints_len (l : List Int) : (ints l).length = l.length := by simp [ints]
theorem ints_get {l : List Int} {i : Nat} (h : i < l.length) : (ints l)[i]? = some (.int .i64 l[i]) := by simp [ints, h]
theorem ints_one (l : List Int) : ∀ u ∈ ints l, u.oneCell' = true := by
  intro u hu
  obtain ⟨n, _, rfl⟩ := List.mem_map.1 hu
  rfl
/-- v is a slice of the numbers l in memory of the call's own: nil, or its block is not below base -/
def OwnI (w : World) (base : Nat) (v : Value) (l : List Int) : Prop := w.ownsRow base 3 1 v l.length (ints l)
theorem OwnI.nil (w : World) (base : Nat) : OwnI w base (.slice none 0 0) [] := World.ownsRow_nil _ _ _ _
theorem OwnI.empty (w : World) (base : Nat) (hb : base ≤ w.heap.size) : OwnI (w.alloc (.cells #[] 3)) base (.slice (some ⟨w.heap.size, 0, none⟩) 0 0) [] := World.ownsRow_made w #[] 0 hb (Nat.zero_le _) rfl
theorem OwnI.lt {w : World} {base : Nat} {v : Value} {l : List Int} (h : OwnI w base v l) {g : Nat} (hg : v.ownBlock = some g) : base ≤ g ∧ g < w.heap.size := World.ownsRow.lt h g hg
theorem OwnI.of_block {w w' : World} {base : Nat} {v : Value} {l : List Int} (h : OwnI w base v l) (e : ∀ g, v.ownBlock = some g → w'.heap[g]? = w.heap[g]?) : OwnI w' base v l := by
  obtain ⟨h1, h2⟩ := h
  refine ⟨h1, ?_⟩
  rcases h2 with h0 | ⟨g, cap, cur, rfl, hg, hh, hr⟩
  · exact .inl h0
  · exact .inr ⟨g, cap, cur, rfl, hg, (e g rfl).trans hh, hr⟩
theorem OwnI.since {w w' : World} {base : Nat} {v : Value} {l : List Int} (h : OwnI w base v l) (hb : Below w.heap.size w w') : OwnI w' base v l := h.of_block fun g hg => hb.block g (h.lt hg).2
theorem OwnI.alloc {w : World} {base : Nat} {v : Value} {l : List Int} (h : OwnI w base v l) (o : Obj) : OwnI (w.alloc o) base v l := h.of_block fun _ hg => Go.Deep.blk_alloc_lt _ _ _ (h.lt hg).2
/-- a slice value, with what it reads as -/
theorem OwnI.parts {w : World} {base : Nat} {v : Value} {l : List Int} (h : OwnI w base v l) {n : Nat} (hn : l.length = n) : ∃ A c, v = .slice A n c ∧ n ≤ c ∧ ∀ i (h : i < l.length), ∃ b, A = some ⟨b, 0, none⟩ ∧ v.ownBlock = some b ∧ w.cell? ⟨b, i, none⟩ = some (.int .i64 l[i]) := by
  rcases h.2 with ⟨rfl, h0⟩ | ⟨g, cap, cur, rfl, hg, hh, hnc, hm, hs, ht⟩
  · rw [hn] at h0
    subst h0
    exact ⟨none, 0, rfl, Nat.le_refl _, fun i hi => by omega⟩
  · refine ⟨_, cap, by rw [hn], by omega, fun i hi => ⟨g, rfl, rfl, ?_⟩⟩
    have e : cur.toList[i]? = some (.int .i64 l[i]) := by
      rw [← ints_get hi, ← ht, List.getElem?_take_of_lt (by omega)]
    simp [World.cell?, hh] at e ⊢
    exact e
theorem OwnI.grew {w w' : World} {B base : Nat} {v : Value} {l : List Int} {w0 : World} (h : OwnI w base v l) (hb : Below B w0 w) (hB : B ≤ base) (hB2 : B ≤ w.heap.size) (hg : w.grownBy w' v.ownBlock) : Below B w0 w' :=
  hb.grown hg hB2 fun g e => by have := (h.lt e).1; omega
theorem int_info : (Try.prog.info? 3).map (fun i => (i.zero, i.size, i.bytes)) = some (some (.int .i64 0), 1, 8) := by kernel_rfl
/-- 'append(v, x)', the one number in a block of its own -/
theorem append_int (w : World) (ty : TypeId) (base : Nat) (v : Value) (l : List Int) (h : OwnI w base v l) (b : Nat) (x : Int) (hx : w.cell? ⟨b, 0, none⟩ = some (.int .i64 x)) (h63 : l.length ≤ 1048576) (hB : base ≤ w.heap.size) :
    ∃ v' w', (Builtin.append_ #[28, 28] ty #[v, .slice (some ⟨b, 0, none⟩) 1 1]).run Try.prog w = .ok v' w' ∧ OwnI w' base v' (l ++ [x]) ∧ w.grownBy w' v.ownBlock ∧ (v'.ownBlock = v.ownBlock ∨ v'.ownBlock = some w.heap.size) := by
  obtain ⟨i, hi, hz, hs, hby⟩ := info_parts int_info
  obtain ⟨v', w', k1, k2, k3, _, k5⟩ := run_append_own_at (P := Try.prog) w base 28 ty 3 i _ 1 8 Try.underlying28 hi hz hs hby rfl (by decide) v l.length (ints l) h ⟨b, 0, none⟩ 1 1 [.int .i64 x] rfl
    (fun j u hu => by
      have hj := (List.getElem?_eq_some_iff.1 hu).1
      simp at hj
      subst hj
      simp at hu
      subst hu
      simpa [Addr.add] using hx) (by intro v hv; simp at hv; subst hv; rfl) (by simp only [maxLen]; omega) (by omega) hB
  refine ⟨v', w', k1, ?_, k3, k5⟩
  have : ints l ++ [.int .i64 x] = ints (l ++ [x]) := by simp [ints]
  rw [this] at k2
  simpa [OwnI] using k2
theorem wpList_append_int (w : World) {ops : Array Oper} {rest : List Oper} {o : Oper} {a : Act} {Q : Exit → Act → World → Prop} (hgd : Region.wanted o (yielded ops a.tmps) = true) (s x : Operand)
    (ho : o.op = .call { callee := .builtin .append, args := #[s, x], argTypes := #[28, 28] })
    (base : Nat) (v : Value) (l : List Int) (hs : a.eval s = v) (h : OwnI w base v l) (b : Nat) (y : Int) (hx : a.eval x = .slice (some ⟨b, 0, none⟩) 1 1) (hy : w.cell? ⟨b, 0, none⟩ = some (.int .i64 y)) (h63 : l.length ≤ 1048576) (hB : base ≤ w.heap.size)
    (hn : ∀ v' w', OwnI w' base v' (l ++ [y]) → w.grownBy w' v.ownBlock → (v'.ownBlock = v.ownBlock ∨ v'.ownBlock = some w.heap.size) → wpList Try.prog ops Q rest (a.put o.dst v') w') :
    wpList Try.prog ops Q (o :: rest) a w := by
  refine wpList_step fun K hK => ?_
  rw [if_pos hgd]
  obtain ⟨v', w', hr, h2, h3, h5⟩ := append_int w o.type base v l h b y hy h63 hB
  unfold Oper.wp execOp
  simp only [ho, resolve, invoke, builtin, Sem.run_bind, Sem.run_pure, Result.andThen_ok, List.map_toArray, List.map_cons, List.map_nil, hs, hx, hr]
  exact hK _ _ (hn v' w' h2 h3 h5)
end Go.Proofs.Ytahfhanibiaimaa.octets
