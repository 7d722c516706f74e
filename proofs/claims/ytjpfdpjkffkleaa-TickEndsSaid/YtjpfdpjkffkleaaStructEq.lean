/-
  '==' OF STRUCTS, field by field. No function of the program.
-/
import Derived.Test.YtjpfdpjkffkleaaMore
import Derived.ChangeKeysEq
namespace Go.Proofs.Ytjpfdpjkffkleaa.octets
open Go.RowKit
set_option linter.unusedVariables false

/-- what is held against each other at one field -/
def EqStep (d : Nat) (xs ys : Array Value) (W : World) (p : TypeId × Nat) (r : Bool) : Prop :=
  ∃ a b, (part p.1 xs p.2).run Try.prog W = .ok a W ∧ (part p.1 ys p.2).run Try.prog W = .ok b W ∧ (Op.equalIn d p.1 a b).run Try.prog W = .ok r W
def EqSteps (d : Nat) (xs ys : Array Value) (W : World) : List (TypeId × Nat) → List Bool → Prop
  | [], [] => True
  | p :: ps, r :: rs => EqStep d xs ys W p r ∧ EqSteps d xs ys W ps rs
  | _, _ => False
theorem eq_fields {d : Nat} {xs ys : Array Value} {W : World} : ∀ (fs : List Field) (sp : List (TypeId × Nat)) (rs : List Bool), fs.map (fun f => (f.name != "_", f.type, f.offset)) = sp.map (fun p => (true, p.1, p.2)) → EqSteps d xs ys W sp rs →
    (Op.eqFields d xs ys fs).run Try.prog W = .ok (rs.all id) W
  | [], [], [], _, _ => by simp [Op.eqFields]
  | [], [], _ :: _, _, h => h.elim
  | [], _ :: _, _, h, _ => by simp at h
  | f :: fs, [], _, h, _ => by simp at h
  | f :: fs, p :: sp, [], _, h => h.elim
  | f :: fs, p :: sp, r :: rs, h, ⟨⟨a, b, p1, p2, p3⟩, hr⟩ => by
    simp only [List.map_cons, List.cons.injEq, Prod.mk.injEq] at h
    obtain ⟨⟨hn, ht, ho⟩, h⟩ := h
    have ih := eq_fields fs sp rs h hr
    have hn' : f.name ≠ "_" := by simpa using hn
    simp only [Op.eqFields, hn', ne_eq, not_false_eq_true, if_true, Sem.run_bind, ht, ho, p1, p2, p3, Result.andThen_ok]
    cases r
    · simp
    · simpa using ih
theorem run_equalIn_fields {d : Nat} {t : TypeId} {xs ys : Array Value} {W : World} (sp : List (TypeId × Nat)) (rs : List Bool) (ht : Try.prog.underlying t = some (.struct (Try.prog.fieldsOf t))) (hp : Try.prog.stoodInHeld t = false)
    (hs : (Try.prog.fieldsOf t).toList.map (fun f => (f.name != "_", f.type, f.offset)) = sp.map (fun p => (true, p.1, p.2))) (h : EqSteps d xs ys W sp rs) : (Op.equalIn (d + 1) t (.agg xs) (.agg ys)).run Try.prog W = .ok (rs.all id) W := by
  rw [run_equalIn_struct W d t xs ys ht hp]
  exact eq_fields _ sp rs hs h
theorem part_cell {t : TypeId} {xs : Array Value} {i : Nat} {v : Value} {W : World} (hn : ∀ W, (isAgg t).run Try.prog W = .ok false W) (hv : xs[i]? = some v) : (part t xs i).run Try.prog W = .ok v W := by simp [part, hn, hv]
theorem EqStep.int {d : Nat} {xs ys : Array Value} {W : World} {t : TypeId} {k : IntKind} {i : Nat} {a b : Int} (ht : Try.prog.underlying t = some (.int k)) (ha : xs[i]? = some (.int k a)) (hb : ys[i]? = some (.int k b)) : EqStep (d + 1) xs ys W (t, i) (a == b) :=
  ⟨_, _, part_cell (fun W => by simp [isAgg, run_underlying ht]) ha, part_cell (fun W => by simp [isAgg, run_underlying ht]) hb, run_equalIn_int W d t k k a b ht⟩
theorem EqStep.bool {d : Nat} {xs ys : Array Value} {W : World} {t : TypeId} {i : Nat} {a b : Bool} (ht : Try.prog.underlying t = some .bool) (ha : xs[i]? = some (.bool a)) (hb : ys[i]? = some (.bool b)) : EqStep (d + 1) xs ys W (t, i) (a == b) :=
  ⟨_, _, part_cell (fun W => by simp [isAgg, run_underlying ht]) ha, part_cell (fun W => by simp [isAgg, run_underlying ht]) hb, run_equalIn_bool' W d t a b ht⟩
theorem eq_items {d : Nat} {e : TypeId} {k : IntKind} {xs ys : Array Value} {W : World} (he : Try.prog.underlying e = some (.int k)) (A B : Nat → Int) : ∀ is : List Nat, (∀ i ∈ is, xs[i]? = some (.int k (A i)) ∧ ys[i]? = some (.int k (B i))) →
    (Op.eqItems (d + 1) e 1 xs ys is).run Try.prog W = .ok (is.all fun i => A i == B i) W
  | [], _ => by simp [Op.eqItems]
  | i :: is, h => by
    have ih := eq_items (d := d) (W := W) he A B is fun j hj => h j (by simp [hj])
    obtain ⟨ha, hb⟩ := h i (by simp)
    have p1 := part_cell (t := e) (W := W) (fun W => by simp [isAgg, run_underlying he]) ha
    have p2 := part_cell (t := e) (W := W) (fun W => by simp [isAgg, run_underlying he]) hb
    simp only [Op.eqItems, Sem.run_bind, Nat.mul_one, p1, p2, Result.andThen_ok, run_equalIn_int W d e k k (A i) (B i) he]
    cases hab : (A i == B i)
    · simp [hab]
    · simpa [hab] using ih
/-- an array of numbers as a field -/
theorem EqStep.ints {d : Nat} {xs ys : Array Value} {W : World} {t e : TypeId} {k : IntKind} {n o : Nat} (ht : Try.prog.underlying t = some (.array n e)) (he : Try.prog.underlying e = some (.int k)) (hc : Try.prog.cellsOf e = 1) (hz : ∀ W, (Go.sizeOf t).run Try.prog W = .ok n W) (hi : (Try.prog.info? e).isSome = true)
    (A B : Nat → Int) (ha : ∀ i, i < n → xs[o + i]? = some (.int k (A i))) (hb : ∀ i, i < n → ys[o + i]? = some (.int k (B i))) : EqStep (d + 2) xs ys W (t, o) ((List.range n).all fun i => A i == B i) := by
  obtain ⟨i0, hi0⟩ := Option.isSome_iff_exists.1 hi
  have hp : ∀ zs : Array Value, (part t zs o).run Try.prog W = .ok (.agg (zs.extract o (o + n))) W := fun zs => by simp [part, isAgg, run_underlying ht, hz]
  refine ⟨_, _, hp xs, hp ys, ?_⟩
  rw [run_equalIn_array W (d + 1) _ _ ht hi0, hc]
  refine eq_items he A B _ fun i hi => ?_
  have hlt := List.mem_range.1 hi
  have hx := (Array.getElem?_eq_some_iff.1 (ha i hlt)).1
  have hy := (Array.getElem?_eq_some_iff.1 (hb i hlt)).1
  exact ⟨by rw [Array.getElem?_extract_of_lt (by omega)]; rw [← Array.getElem?_eq_getElem hx]; exact ha i hlt, by rw [Array.getElem?_extract_of_lt (by omega)]; rw [← Array.getElem?_eq_getElem hy]; exact hb i hlt⟩
/-- a struct as a field -/
theorem EqStep.struct {d : Nat} {xs ys : Array Value} {W : World} {t : TypeId} {fs : Array Field} {n o : Nat} {r : Bool} (ht : Try.prog.underlying t = some (.struct fs)) (hz : ∀ W, (Go.sizeOf t).run Try.prog W = .ok n W)
    (h : (Op.equalIn d t (.agg (xs.extract o (o + n))) (.agg (ys.extract o (o + n)))).run Try.prog W = .ok r W) : EqStep d xs ys W (t, o) r := by
  have hp : ∀ zs : Array Value, (part t zs o).run Try.prog W = .ok (.agg (zs.extract o (o + n))) W := fun zs => by simp [part, isAgg, run_underlying ht, hz]
  exact ⟨_, _, hp xs, hp ys, h⟩
/-- the load of a whole array or struct; the operation may be guarded -/
theorem wpList_load_arr_any {P : Program} {ops : Array Oper} {rest : List Oper} {o : Oper} {a : Act} {w : World} {Q : Exit → Act → World → Prop} {ty : TypeId} {x : Operand} {b : Nat} {cs : List Value} (n : Nat) (hgd : Region.wanted o (yielded ops a.tmps) = true) (ho : o.op = .load ty x)
    (hx : a.eval x = .pointer (some ⟨b, 0, none⟩)) (hA : Arr w b cs) (hr : rowB P ty n = true) (hn : cs.length = n) (h : wpList P ops Q rest (a.put o.dst (.agg cs.toArray)) w) : wpList P ops Q (o :: rest) a w := by
  obtain ⟨d, h1, h2, h3⟩ := rowB_spec hr
  refine wpList_step fun K hK => ?_
  rw [if_pos hgd]
  exact wp_load_mid ty x ho b 0 hx cs d hA.range h1 h2 (by rw [h3, hn]) (hK _ _ h)
end Go.Proofs.Ytjpfdpjkffkleaa.octets
