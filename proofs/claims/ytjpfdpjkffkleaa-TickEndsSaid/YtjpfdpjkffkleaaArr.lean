/-
  ARRAYS IN MEMORY, whole: facts of the world, and laws of what is done to them. No function of the program.
-/
import Derived.Test.YtjpfdpjkffkleaaBytes
import Derived.Deep.MidRow
import Derived.ChangeKeysEq
import Derived.LoopN
import Derived.StillTail
namespace Go.Proofs.Ytjpfdpjkffkleaa.octets
open Go.RowKit
set_option linter.unusedVariables false

/-- block b holds just the cells cs, none of them frozen -/
def Arr (w : World) (b : Nat) (cs : List Value) : Prop := ∃ t, w.heap[b]? = some (.cells cs.toArray t (0, 0))

theorem Arr.lt {w : World} {b : Nat} {cs : List Value} (h : Arr w b cs) : b < w.heap.size := by
  obtain ⟨t, h⟩ := h
  exact (Array.getElem?_eq_some_iff.1 h).1
theorem Arr.cell {w : World} {b : Nat} {cs : List Value} (h : Arr w b cs) {i : Nat} {v : Value} (hv : cs[i]? = some v) : w.cell? ⟨b, i, none⟩ = some v := by
  obtain ⟨t, h⟩ := h
  simp [World.cell?, h, hv]
theorem Arr.frozen {w : World} {b : Nat} {cs : List Value} (h : Arr w b cs) (i : Nat) : w.frozen? ⟨b, i, none⟩ = false := by
  obtain ⟨t, h⟩ := h
  simp [World.frozen?, h]
theorem Arr.of_block {w w' : World} {b : Nat} {cs : List Value} (h : Arr w b cs) (e : w'.heap[b]? = w.heap[b]?) : Arr w' b cs := by
  obtain ⟨t, h⟩ := h
  exact ⟨t, e.trans h⟩
theorem Arr.below {w w' : World} {b B : Nat} {cs : List Value} (h : Arr w b cs) (hb : Below B w w') (hB : b < B) : Arr w' b cs := h.of_block (hb.block b hB)
theorem Arr.since {w w' : World} {b : Nat} {cs : List Value} (h : Arr w b cs) (hb : Below w.heap.size w w') : Arr w' b cs := h.of_block (hb.block b h.lt)
theorem Arr.alloc {w : World} {b : Nat} {cs : List Value} (h : Arr w b cs) (o : Obj) : Arr (w.alloc o) b cs := h.of_block (Go.Deep.blk_alloc_lt _ _ _ h.lt)
theorem Arr.drewN {w : World} {b : Nat} {cs : List Value} (h : Arr w b cs) (q : Nat) : Arr (w.drewN q) b cs := h
theorem Arr.drew {w : World} {b : Nat} {cs : List Value} (h : Arr w b cs) : Arr w.drew b cs := h
theorem Arr.other {w : World} {b : Nat} {cs : List Value} (h : Arr w b cs) {a : Addr} (ha : b ≠ a.block) (v : Value) : Arr (w.setCell a v) b cs := h.of_block (Go.Deep.blk_setCell_other _ _ _ _ ha)
theorem Arr.new (w : World) (cs : List Value) (t : TypeId) : Arr (w.alloc (.cells cs.toArray t)) w.heap.size cs := ⟨t, Go.Deep.blk_alloc_new _ _⟩
theorem Arr.new_at (w : World) (cs : List Value) (C : Array Value) (t : TypeId) (e : C = cs.toArray) : Arr (w.alloc (.cells C t)) w.heap.size cs := by subst e; exact Arr.new w cs t
theorem Arr.set {w : World} {b : Nat} {cs : List Value} (h : Arr w b cs) (i : Nat) (v : Value) : Arr (w.setCell ⟨b, i, none⟩ v) b (cs.set i v) := by
  obtain ⟨t, h⟩ := h
  refine ⟨t, ?_⟩
  simp [World.setCell, Array.getElem?_modify, h]
theorem Arr.range {w : World} {b : Nat} {cs : List Value} (h : Arr w b cs) : w.rangeAt b 0 cs := fun j v hv => by rw [Nat.zero_add]; exact h.cell hv
theorem Arr.part {w : World} {b : Nat} {cs : List Value} (h : Arr w b cs) (o n : Nat) : w.rangeAt b o ((cs.drop o).take n) := fun j v hv => by
  refine h.cell ?_
  have hj := (List.getElem?_eq_some_iff.1 hv).1
  simp at hj
  rw [List.getElem?_take_of_lt (by omega), List.getElem?_drop] at hv
  exact hv
theorem Arr.there {w : World} {b : Nat} {cs : List Value} (h : Arr w b cs) : w.there b 0 cs.length := fun j hj => by
  rw [Nat.zero_add]
  exact ⟨by rw [h.cell (List.getElem?_eq_getElem hj)]; rfl, h.frozen j⟩
theorem setCells_block (b : Nat) : ∀ (vs : List Value) (o : Nat) (w : World) (cs : List Value), Arr w b cs → o + vs.length ≤ cs.length → Arr (w.setCells b o vs) b (cs.take o ++ vs ++ cs.drop (o + vs.length))
  | [], o, w, cs, h, _ => by
    have e : cs.take o ++ [] ++ cs.drop (o + ([] : List Value).length) = cs := by simp
    rw [e]; exact h
  | v :: vs, o, w, cs, h, hl => by
    have := setCells_block b vs (o + 1) (w.setCell ⟨b, o, none⟩ v) (cs.set o v) (h.set o v) (by simp at hl ⊢; omega)
    have e : (cs.set o v).take (o + 1) ++ vs ++ (cs.set o v).drop (o + 1 + vs.length) = cs.take o ++ (v :: vs) ++ cs.drop (o + (v :: vs).length) := by
      simp only [List.length_cons] at hl
      rw [List.drop_set_of_lt (by omega), show o + 1 + vs.length = o + (v :: vs).length by simp; omega, List.take_succ_eq_append_getElem (by simp; omega), List.take_set_of_le (by omega)]
      simp
    rw [e] at this
    exact this
theorem Arr.setAll {w : World} {b : Nat} {cs : List Value} (h : Arr w b cs) (vs : List Value) (hl : vs.length = cs.length) : Arr (w.setCells b 0 vs) b vs := by
  have := setCells_block b vs 0 w cs h (by omega)
  rw [List.take_zero, List.nil_append, List.drop_of_length_le (by omega), List.append_nil] at this
  exact this
theorem setCells_other (b k : Nat) (hk : k ≠ b) : ∀ (vs : List Value) (o : Nat) (w : World), (w.setCells b o vs).heap[k]? = w.heap[k]?
  | [], _, _ => rfl
  | v :: vs, o, w => by rw [World.setCells, setCells_other b k hk vs]; exact Go.Deep.blk_setCell_other _ _ _ _ hk
theorem setCells_below (b : Nat) {B : Nat} {w0 : World} (hb : B ≤ b) : ∀ (vs : List Value) (o : Nat) (w : World), Below B w0 w → Below B w0 (w.setCells b o vs)
  | [], _, _, h => h
  | v :: vs, o, w, h => setCells_below b hb vs (o + 1) _ (h.setCell hb v)
theorem setCells_size (b : Nat) : ∀ (vs : List Value) (o : Nat) (w : World), (w.setCells b o vs).heap.size = w.heap.size
  | [], _, _ => rfl
  | v :: vs, o, w => by rw [World.setCells, setCells_size b vs]; simp

/-- 'x[i]', x an array that is a value -/
theorem run_index_agg {P : Program} (w : World) (t e : TypeId) (n : Nat) (k k' : IntKind) (ht : P.underlying t = some (.array n e)) (he : P.underlying e = some (.int k')) (hz : (P.info? e).map (·.size) = some 1) (cs : List Value) (i : Nat) (hi : i < n) (v : Value) (hv : cs[i]? = some v) :
    (Instr.index t (.agg cs.toArray) (.int k (i : Int))).run P w = .ok v w := by
  have h1 : 0 ≤ (i : Int) ∧ (i : Int) < (n : Int) := by omega
  have hs : (Go.sizeOf e).run P w = .ok 1 w := by
    cases hq : P.info? e with
    | none => simp [hq] at hz
    | some x => simp [hq] at hz; simp [Go.sizeOf, typeInfo, hq, hz]
  have ha : (isAgg e).run P w = .ok false w := by simp [isAgg, run_underlying he]
  simp [Instr.index, run_underlying ht, asIntOf, h1, hs, part, ha, hv]
  intro h; omega
/-- ty is an array, or a struct, of n cells -/
def rowB (P : Program) (ty : TypeId) (n : Nat) : Bool := (match P.underlying ty with | some d => d.isRow | none => false) && (P.info? ty).map (·.size) == some n
theorem rowB_spec {P : Program} {ty : TypeId} {n : Nat} (h : rowB P ty n = true) : ∃ d, P.underlying ty = some d ∧ d.isRow = true ∧ (P.info? ty).map (·.size) = some n := by
  unfold rowB at h
  rw [Bool.and_eq_true, beq_iff_eq] at h
  obtain ⟨h1, h2⟩ := h
  split at h1
  · rename_i d hd; exact ⟨d, hd, h1, h2⟩
  · cases h1
/-- the load of a whole array -/
theorem wpList_load_arr {P : Program} {ops : Array Oper} {rest : List Oper} {o : Oper} {a : Act} {w : World} {Q : Exit → Act → World → Prop} {ty : TypeId} {x : Operand} {b : Nat} {cs : List Value} (n : Nat) (hgd : o.guard = none) (ho : o.op = .load ty x)
    (hx : a.eval x = .pointer (some ⟨b, 0, none⟩)) (hA : Arr w b cs) (hr : rowB P ty n = true) (hn : cs.length = n) (h : wpList P ops Q rest (a.put o.dst (.agg cs.toArray)) w) : wpList P ops Q (o :: rest) a w := by
  obtain ⟨d, h1, h2, h3⟩ := rowB_spec hr
  exact wpList_load_mid hgd ty x ho b 0 hx cs d hA.range h1 h2 (by rw [h3, hn]) h
theorem wpStill_load_arr {P : Program} {ops : Array Oper} {rest : List Oper} {o : Oper} {a : Act} {w : World} {Q : Act → Prop} {ty : TypeId} {x : Operand} {b : Nat} {cs : List Value} (n : Nat) (hgd : o.guard = none) (ho : o.op = .load ty x)
    (hx : a.eval x = .pointer (some ⟨b, 0, none⟩)) (hA : Arr w b cs) (hr : rowB P ty n = true) (hn : cs.length = n) (h : wpStill P ops w Q rest (a.put o.dst (.agg cs.toArray))) : wpStill P ops w Q (o :: rest) a := by
  obtain ⟨d, h1, h2, h3⟩ := rowB_spec hr
  refine wpStill_step fun K hK => ?_
  have hw : Region.wanted o (yielded ops a.tmps) = true := by simp [Region.wanted, hgd]
  rw [if_pos hw]
  unfold Oper.still execOp
  simp only [ho, hx, Instr.loadAt, Instr.sureAddr, Sem.run_bind, Sem.run_pure, Result.andThen_ok, run_loadVar_mid w b 0 ty cs d hA.range h1 h2 (by rw [h3, hn])]
  exact ⟨rfl, hK _ h⟩
/-- the store of a whole array -/
theorem wpList_store_arr {P : Program} {ops : Array Oper} {rest : List Oper} {o : Oper} {a : Act} {w : World} {Q : Exit → Act → World → Prop} {ty : TypeId} {x y : Operand} {b : Nat} {cs cs' : List Value} (n : Nat) (hgd : o.guard = none) (ho : o.op = .store ty x y)
    (hx : a.eval x = .pointer (some ⟨b, 0, none⟩)) (hy : a.eval y = .agg cs'.toArray) (hA : Arr w b cs) (hr : rowB P ty n = true) (hn : cs.length = n) (hn' : cs'.length = n) (h1 : ∀ v ∈ cs', v.oneCell' = true)
    (h : ∀ w', Arr w' b cs' → (∀ k, k ≠ b → w'.heap[k]? = w.heap[k]?) → Below b w w' → w'.heap.size = w.heap.size → wpList P ops Q rest (a.put o.dst undef) w') : wpList P ops Q (o :: rest) a w := by
  obtain ⟨d, _, _, h3⟩ := rowB_spec hr
  refine wpList_store_mid hgd ty x y ho b 0 cs'.toArray hx hy ?_ (by rw [h3]; simp [hn']) (all_oneCell_toArray h1) ?_
  · have := hA.there
    simpa [hn, hn'] using this
  · exact h _ (hA.setAll cs' (by rw [hn, hn'])) (fun k hk => setCells_other b k hk _ _ _) (setCells_below b (Nat.le_refl _) _ _ _ (Below.refl _ _)) (setCells_size _ _ _ _)
/-- a call's result that is an array of its own -/
theorem ret_arr {P : Program} {fn : Func} {R : Ending → World → Prop} {a : Act} {w : World} {p : Tmp} {ty : TypeId} (h : fn.results = #[.cell p ty]) (g : Nat) (cs : List Value) (d : TypeDesc) (hp : a.tmps.getD p undef = .pointer (some ⟨g, 0, none⟩)) (hA : Arr w g cs)
    (hu : P.underlying ty = some d) (hd : (match d with | .struct _ | .array _ _ => true | _ => false) = true) (hi : (P.info? ty).map (·.size) = some cs.length) (hdf : a.defers = []) (hR : R (.returned (.agg cs.toArray)) w) : bodyPost P fn R .ret a w := by
  obtain ⟨t, hg⟩ := hA
  exact bodyPost_ret (results_cell_row h _ _ g t _ _ d hp hg hu hd (by simpa using hi)) hdf hR
/-- an array is like itself -/
theorem run_equal_self {P : Program} (w : World) (t e : TypeId) (n : Nat) (k : IntKind) (ht : P.underlying t = some (.array n e)) (he : P.underlying e = some (.int k)) (hz : ∀ w, (Go.sizeOf e).run P w = .ok 1 w) (d : Nat) (xs : List Int) (hx : xs.length = n) :
    (Op.equalIn (d + 2) t (.agg (xs.map (Value.int k)).toArray) (.agg (xs.map (Value.int k)).toArray)).run P w = .ok true w := by
  rw [Op.equalIn]
  simp only [Sem.run_bind, run_underlying ht, Result.andThen_ok, hz, Std.Legacy.Range.forIn_eq_forIn_range', Std.Legacy.Range.size, Nat.sub_zero, Nat.add_sub_cancel, Nat.div_one]
  have hl : ∀ i ∈ List.range' 0 n 1, i < n := fun i hi => by simpa using (List.mem_range'_1.1 hi).2
  generalize List.range' 0 n 1 = l at hl ⊢
  induction l with
  | nil => simp
  | cons i l ih =>
    have hi : i < xs.length := by have := hl i (by simp); omega
    have px : (part e (xs.map (Value.int k)).toArray (i * 1)).run P w = .ok (.int k xs[i]) w := by
      simp [part, isAgg, run_underlying he, hi]
    have pe : (Op.equalIn (d + 1) e (.int k xs[i]) (.int k xs[i])).run P w = .ok true w := by
      rw [run_equalIn_int w d e k k _ _ he]; simp
    simp only [List.forIn_cons, Sem.run_bind, px, pe, Result.andThen_ok]
    simp only [Bool.not_true, Bool.false_eq_true, if_false, Sem.run_pure, Result.andThen_ok]
    exact ih fun j hj => hl j (by simp [hj])
theorem run_eql_self {P : Program} (w : World) (t e : TypeId) (n : Nat) (k : IntKind) (ht : P.underlying t = some (.array n e)) (he : P.underlying e = some (.int k)) (hz : ∀ w, (Go.sizeOf e).run P w = .ok 1 w) (xs : List Int) (hx : xs.length = n) :
    (binOp .eql t (.agg (xs.map (Value.int k)).toArray) (.agg (xs.map (Value.int k)).toArray)).run P w = .ok (.bool true) w := by
  rw [run_eql_struct, run_equal_self w t e n k ht he hz 9998 xs hx]
  rfl
end Go.Proofs.Ytjpfdpjkffkleaa.octets
