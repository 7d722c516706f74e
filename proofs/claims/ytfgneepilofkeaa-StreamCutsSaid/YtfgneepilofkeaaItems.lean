/-
  ROWS OF ITEMS, ROWS OF SLICES, A STREAM IN MEMORY: facts of the world, and laws of what is done to them.
  B says in which blocks all of it lies: what is done to others leaves it.
-/
import Derived.Test.YtfgneepilofkeaaStreamMath
import Derived.Test.YtfgneepilofkeaaFrameAt
import Derived.Maps.AppendAt
namespace Go.Proofs.Ytfgneepilofkeaa.stream
open Go.RowKit Go.Proofs.Ytfgneepilofkeaa.octets Go.Proofs.Ytfgneepilofkeaa.frame
set_option linter.unusedVariables false

/-- the cells of a row of whatever make -/
def Grid (w : World) (A : Option Addr) (vs : List Value) : Prop := vs ≠ [] → ∃ b o, A = some ⟨b, o, none⟩ ∧ b < w.heap.size ∧ ∀ i (h : i < vs.length), w.cell? ⟨b, o + i, none⟩ = some vs[i]
/-- reads as l, in a block of B -/
def SeenB (w : World) (B : Nat → Prop) (A : Option Addr) (l : List UInt8) : Prop := l ≠ [] → ∃ b o, A = some ⟨b, o, none⟩ ∧ b < w.heap.size ∧ B b ∧ ∀ i (h : i < l.length), w.cell? ⟨b, o + i, none⟩ = some (.int .u8 (l[i].toNat : Int))
/-- cells that are items -/
def Cs (w : World) (B : Nat → Prop) : List I → List Value → Prop
  | [], vs => vs = []
  | x :: L, vs => ∃ A n us, vs = .int .i64 (x.code : Int) :: .slice A x.body.length n :: us ∧ SeenB w B A x.body ∧ Cs w B L us
/-- a row of items of the call's own -/
def Its (w : World) (B : Nat → Prop) (v : Value) (L : List I) : Prop :=
  ∃ vs, w.ownsRow 0 40 2 v L.length vs ∧ (∀ k, v.ownBlock = some k → B k) ∧ Cs w (fun b => B b ∧ v.ownBlock ≠ some b) L vs
/-- a row of items of whatever make -/
def Src (w : World) (B : Nat → Prop) (A : Option Addr) (L : List I) : Prop := ∃ vs, Grid w A vs ∧ Cs w B L vs
/-- block g is a Stream that l is left in -/
def Str (w : World) (B : Nat → Prop) (g : Nat) (l : List UInt8) : Prop :=
  B g ∧ ∃ v, w.heap[g]? = some (.cells #[v] 44 (0, 0)) ∧ Own w 0 v l ∧ ∀ k, v.ownBlock = some k → B k ∧ k ≠ g
/-- what lies in B reads as before -/
def Keeps (B : Nat → Prop) (w w' : World) : Prop := w.heap.size ≤ w'.heap.size ∧ ∀ b, B b → b < w.heap.size → w'.heap[b]? = w.heap[b]?

theorem SeenB.seen {w : World} {B : Nat → Prop} {A : Option Addr} {l : List UInt8} (h : SeenB w B A l) : Seen w A l := fun hn => by
  obtain ⟨b, o, h1, h2, _, h3⟩ := h hn
  exact ⟨b, o, h1, h2, h3⟩
theorem SeenB.keep {w w' : World} {B B' : Nat → Prop} {A : Option Addr} {l : List UInt8} (h : SeenB w B A l) (hk : Keeps B w w') (hB : ∀ b, b < w.heap.size → B b → B' b) : SeenB w' B' A l := fun hn => by
  obtain ⟨b, o, h1, h2, h3, h4⟩ := h hn
  exact ⟨b, o, h1, Nat.lt_of_lt_of_le h2 hk.1, hB b h2 h3, fun i hi => (World.cell?_of_block (hk.2 b h3 h2)).trans (h4 i hi)⟩
theorem SeenB.of_seen {w : World} {A : Option Addr} {l : List UInt8} (h : Seen w A l) : SeenB w (fun b => b < w.heap.size) A l := fun hn => by
  obtain ⟨b, o, h1, h2, h3⟩ := h hn
  exact ⟨b, o, h1, h2, h2, h3⟩
theorem SeenB.of_own {w : World} {base n c : Nat} {A : Option Addr} {l : List UInt8} (h : Own w base (.slice A n c) l) : SeenB w (fun b => base ≤ b) A l := fun hn => by
  obtain ⟨b, o, h1, h2, h3⟩ := seen_is h hn
  refine ⟨b, o, h1, h2, ?_, h3⟩
  have := h.lt (g := b) (by rw [h1]; rfl)
  exact this.1
theorem SeenB.nil (w : World) (B : Nat → Prop) (A : Option Addr) : SeenB w B A [] := fun h => absurd rfl h

theorem Keeps.refl (B : Nat → Prop) (w : World) : Keeps B w w := ⟨Nat.le_refl _, fun _ _ _ => rfl⟩
theorem Keeps.of_below {B : Nat → Prop} {w w' : World} (h : Below w.heap.size w w') : Keeps B w w' := ⟨h.size, fun b _ hb => h.block b hb⟩
theorem Keeps.of_grown {B : Nat → Prop} {w w' : World} {r : Option Nat} (h : w.grownBy w' r) (hB : ∀ b, b < w.heap.size → B b → some b ≠ r) : Keeps B w w' := ⟨h.size, fun b hb hl => h.block b hl (hB b hl hb)⟩
theorem Keeps.mono {B B' : Nat → Prop} {w w' : World} (h : Keeps B w w') (hB : ∀ b, b < w.heap.size → B' b → B b) : Keeps B' w w' := ⟨h.1, fun b hb hl => h.2 b (hB b hl hb) hl⟩

theorem Cs.keep {w w' : World} {B B' : Nat → Prop} (hk : Keeps B w w') (hB : ∀ b, b < w.heap.size → B b → B' b) : ∀ (L : List I) (vs : List Value), Cs w B L vs → Cs w' B' L vs
  | [], vs, h => h
  | x :: L, vs, ⟨A, n, us, h1, h2, h3⟩ => ⟨A, n, us, h1, h2.keep hk hB, Cs.keep hk hB L us h3⟩
theorem Cs.mono {w : World} {B B' : Nat → Prop} (hB : ∀ b, b < w.heap.size → B b → B' b) {L : List I} {vs : List Value} (h : Cs w B L vs) : Cs w B' L vs := Cs.keep (Keeps.refl _ _) hB L vs h
theorem Cs.len {w : World} {B : Nat → Prop} : ∀ (L : List I) (vs : List Value), Cs w B L vs → vs.length = L.length * 2
  | [], vs, h => by
    have h : vs = [] := h
    subst h; rfl
  | x :: L, vs, ⟨A, n, us, h1, h2, h3⟩ => by
    have := Cs.len L us h3
    subst h1
    simp; omega
theorem Cs.app {w : World} {B : Nat → Prop} {M : List I} {us : List Value} (hM : Cs w B M us) : ∀ (L : List I) (vs : List Value), Cs w B L vs → Cs w B (L ++ M) (vs ++ us)
  | [], vs, h => by
    have h : vs = [] := h
    subst h; exact hM
  | x :: L, vs, ⟨A, n, ts, h1, h2, h3⟩ => ⟨A, n, ts ++ us, by rw [h1]; rfl, h2, Cs.app hM L ts h3⟩
theorem Cs.one {w : World} {B : Nat → Prop} : ∀ (L : List I) (vs : List Value), Cs w B L vs → ∀ u ∈ vs, u.oneCell' = true
  | [], vs, h, u, hu => by
    have h : vs = [] := h
    subst h; cases hu
  | x :: L, vs, ⟨A, n, ts, h1, h2, h3⟩, u, hu => by
    subst h1
    simp only [List.mem_cons] at hu
    rcases hu with rfl | rfl | hu
    · rfl
    · rfl
    · exact Cs.one L ts h3 u hu
theorem Cs.get {w : World} {B : Nat → Prop} : ∀ (L : List I) (vs : List Value), Cs w B L vs → ∀ i (h : i < L.length), ∃ A n, vs[i * 2]? = some (.int .i64 (L[i].code : Int)) ∧ vs[i * 2 + 1]? = some (.slice A L[i].body.length n) ∧ SeenB w B A L[i].body
  | [], vs, h, i, hi => by simp at hi
  | x :: L, vs, ⟨A, n, ts, h1, h2, h3⟩, 0, hi => ⟨A, n, by rw [h1]; rfl, by rw [h1]; rfl, h2⟩
  | x :: L, vs, ⟨A, n, ts, h1, h2, h3⟩, i + 1, hi => by
    obtain ⟨A', n', g1, g2, g3⟩ := Cs.get L ts h3 i (by simpa using hi)
    refine ⟨A', n', ?_, ?_, g3⟩
    · rw [h1, show (i + 1) * 2 = i * 2 + 1 + 1 by omega, List.getElem?_cons_succ, List.getElem?_cons_succ]; exact g1
    · rw [h1, show (i + 1) * 2 + 1 = i * 2 + 1 + 1 + 1 by omega, List.getElem?_cons_succ, List.getElem?_cons_succ]; exact g2

theorem Grid.keep {w w' : World} {A : Option Addr} {vs : List Value} (h : Grid w A vs) (hb : Below w.heap.size w w') : Grid w' A vs := fun hn => by
  obtain ⟨b, o, h1, h2, h3⟩ := h hn
  exact ⟨b, o, h1, Nat.lt_of_lt_of_le h2 hb.size, fun i hi => (World.cell?_of_block (hb.block b h2)).trans (h3 i hi)⟩
theorem Grid.at_ {w : World} {A : Option Addr} {vs : List Value} (h : Grid w A vs) {k : Nat} (hk : k < vs.length) : ∃ b o, A = some ⟨b, o, none⟩ ∧ b < w.heap.size ∧ ∀ i (h : i < vs.length), w.cell? ⟨b, o + i, none⟩ = some vs[i] := h (by intro e; simp [e] at hk)
/-- a row of the call's own, as cells -/
theorem Grid.own {w : World} {base size n : Nat} {e : TypeId} {v : Value} {vs : List Value} (h : w.ownsRow base e size v n vs) : ∃ A c, v = .slice A n c ∧ n ≤ c ∧ Grid w A vs ∧ ∀ a, A = some a → v.ownBlock = some a.block := by
  rcases h.2 with ⟨rfl, h0⟩ | ⟨g, cap, cur, rfl, _, hh, hn, _, hs, ht⟩
  · have h1 := h.1
    subst h0
    have : vs = [] := List.eq_nil_of_length_eq_zero (by simpa using h1)
    subst this
    exact ⟨none, 0, rfl, Nat.le_refl _, fun h => absurd rfl h, fun a ha => by cases ha⟩
  · refine ⟨_, cap, rfl, hn, fun _ => ⟨g, 0, rfl, (Array.getElem?_eq_some_iff.1 hh).1, fun i hi => ?_⟩, fun a ha => by cases ha; rfl⟩
    have hl : n * size ≤ cur.toList.length := by
      rw [Array.length_toList, hs]
      exact Nat.mul_le_mul_right _ hn
    have e : cur.toList[i]? = some vs[i] := by
      rw [← List.getElem?_eq_getElem hi, ← ht, List.getElem?_take_of_lt (by rw [h.1] at hi; exact hi)]
    rw [Nat.zero_add]
    simp [World.cell?, hh] at e ⊢
    exact e
theorem Its.src {w : World} {B : Nat → Prop} {v : Value} {L : List I} (h : Its w B v L) : ∃ A c, v = .slice A L.length c ∧ L.length ≤ c ∧ Src w B A L := by
  obtain ⟨vs, h1, h2, h3⟩ := h
  obtain ⟨A, c, rfl, hc, hg, _⟩ := Grid.own h1
  exact ⟨A, c, rfl, hc, vs, hg, h3.mono fun b _ hb => hb.1⟩
theorem Its.keep {w w' : World} {B B' : Nat → Prop} {v : Value} {L : List I} (h : Its w B v L) (hk : Keeps B w w') (hB : ∀ b, b < w.heap.size → B b → B' b) : Its w' B' v L := by
  obtain ⟨vs, h1, h2, h3⟩ := h
  refine ⟨vs, ⟨h1.1, ?_⟩, fun k e => hB k (h1.lt k e).2 (h2 k e), Cs.keep (hk.mono fun b _ hb => hb.1) (fun b hl hb => ⟨hB b hl hb.1, hb.2⟩) L vs h3⟩
  rcases h1.2 with hn | ⟨g, cap, cur, rfl, hb, hgg, rest⟩
  · exact .inl hn
  · exact .inr ⟨g, cap, cur, rfl, hb, (hk.2 g (h2 g rfl) (Array.getElem?_eq_some_iff.1 hgg).1).trans hgg, rest⟩
theorem Its.since {w w' : World} {B : Nat → Prop} {v : Value} {L : List I} (h : Its w B v L) (hb : Below w.heap.size w w') : Its w' B v L := h.keep (Keeps.of_below hb) fun _ _ h => h
theorem Its.alloc {w : World} {B : Nat → Prop} {v : Value} {L : List I} (h : Its w B v L) (o : Obj) : Its (w.alloc o) B v L := h.since (below_new w o)
theorem Its.mono {w : World} {B B' : Nat → Prop} {v : Value} {L : List I} (h : Its w B v L) (hB : ∀ b, b < w.heap.size → B b → B' b) : Its w B' v L := h.keep (Keeps.refl _ _) hB
theorem Its.nil (w : World) (B : Nat → Prop) : Its w B (.slice none 0 0) [] := ⟨[], World.ownsRow_nil _ _ _ _, fun k e => (by cases e), rfl⟩
theorem Its.lt {w : World} {B : Nat → Prop} {v : Value} {L : List I} (h : Its w B v L) {k : Nat} (hk : v.ownBlock = some k) : B k ∧ k < w.heap.size := by
  obtain ⟨vs, h1, h2, h3⟩ := h
  exact ⟨h2 k hk, (h1.lt k hk).2⟩
/-- '[]T{}' -/
theorem Its.empty (w : World) (B : Nat → Prop) (hB : B w.heap.size) : Its (w.alloc (.cells #[] 40)) B (.slice (some ⟨w.heap.size, 0, none⟩) 0 0) [] :=
  ⟨[], World.ownsRow_made w #[] 0 (Nat.zero_le _) (Nat.zero_le _) rfl, fun k e => by cases e; exact hB, rfl⟩

theorem Str.keep {w w' : World} {B B' : Nat → Prop} {g : Nat} {l : List UInt8} (h : Str w B g l) (hk : Keeps B w w') (hB : ∀ b, b < w.heap.size → B b → B' b) : Str w' B' g l := by
  obtain ⟨h1, v, h2, h3, h4⟩ := h
  have hl := (Array.getElem?_eq_some_iff.1 h2).1
  exact ⟨hB g hl h1, v, (hk.2 g h1 hl).trans h2, h3.of_block fun k e => hk.2 k (h4 k e).1 (h3.lt e).2, fun k e => ⟨hB k (h3.lt e).2 (h4 k e).1, (h4 k e).2⟩⟩
theorem Str.since {w w' : World} {B : Nat → Prop} {g : Nat} {l : List UInt8} (h : Str w B g l) (hb : Below w.heap.size w w') : Str w' B g l := h.keep (Keeps.of_below hb) fun _ _ h => h
theorem Str.alloc {w : World} {B : Nat → Prop} {g : Nat} {l : List UInt8} (h : Str w B g l) (o : Obj) : Str (w.alloc o) B g l := h.since (below_new w o)
theorem Str.mono {w : World} {B B' : Nat → Prop} {g : Nat} {l : List UInt8} (h : Str w B g l) (hB : ∀ b, b < w.heap.size → B b → B' b) : Str w B' g l := h.keep (Keeps.refl _ _) hB
theorem Str.lt {w : World} {B : Nat → Prop} {g : Nat} {l : List UInt8} (h : Str w B g l) : g < w.heap.size := by
  obtain ⟨h1, v, h2, h3, h4⟩ := h
  exact (Array.getElem?_eq_some_iff.1 h2).1

theorem item_info : (Try.prog.info? 40).map (fun i => (i.zero, i.size, i.bytes)) = some (some (.agg #[.int .i64 0, .slice none 0 0]), 2, 32) := by kernel_rfl
/-- 'append' of items -/
theorem append_items (w : World) (ty : TypeId) (B : Nat → Prop) (v : Value) (L M : List I) (h : Its w B v L) (A : Option Addr) (m c : Nat) (hm : M.length = m) (hM : Src w (fun b => B b ∧ v.ownBlock ≠ some b) A M)
    (h63 : L.length + m ≤ 4398046511104) (hB : B w.heap.size) :
    ∃ v' w', (Builtin.append_ #[29, 29] ty #[v, .slice A m c]).run Try.prog w = .ok v' w' ∧ Its w' B v' (L ++ M) ∧ w.grownBy w' v.ownBlock ∧ (v'.ownBlock = v.ownBlock ∨ v'.ownBlock = some w.heap.size) := by
  subst hm
  obtain ⟨vs, h1, h2, h3⟩ := h
  obtain ⟨us, g1, g2⟩ := hM
  obtain ⟨i, hi, hz, hs, hby⟩ := info_parts item_info
  have hul := g2.len
  rcases A with _ | ad
  · have hu : us = [] := by
      rcases Classical.em (us = []) with h0 | h0
      · exact h0
      · obtain ⟨_, _, e, _⟩ := g1 h0; cases e
    have : M = [] := by
      subst hu
      apply List.eq_nil_of_length_eq_zero
      simp at hul; omega
    subst this
    refine ⟨v, w, ?_, by rw [List.append_nil]; exact ⟨vs, h1, h2, h3⟩, World.grownBy.refl _ _, .inl rfl⟩
    rcases h1.2 with ⟨rfl, h0⟩ | ⟨g, cap, cur, rfl, _, _, hnc, _⟩
    · simp [Builtin.append_, run_underlying Try.underlying29, sizeOf, typeInfo, hi, Builtin.lenOf, Builtin.firstCells]
    · simp [Builtin.append_, run_underlying Try.underlying29, sizeOf, typeInfo, hi, Builtin.lenOf, Builtin.firstCells, hnc, storeCells]
  · obtain ⟨v', w', k1, k2, k3, _, k5⟩ := run_append_own_at (P := Try.prog) w 0 29 ty 40 i _ 2 32 Try.underlying29 hi hz hs hby rfl (by decide) v L.length vs h1 ad M.length c us hul
      (fun j u hu => by
        have hj := (List.getElem?_eq_some_iff.1 hu).1
        obtain ⟨b, o, e, _, hc⟩ := g1.at_ hj
        injection e with e
        subst e
        have := hc j hj
        rw [← List.getElem?_eq_getElem hj, hu] at this
        unfold Addr.add
        split
        · rename_i h0; subst h0; simpa using this
        · exact this) (g2.one) (by simp only [maxLen]; omega) (by omega) (Nat.zero_le _)
    refine ⟨v', w', k1, ⟨vs ++ us, by rw [List.length_append]; exact k2, fun k e => ?_, ?_⟩, k3, k5⟩
    · rcases k5 with e' | e'
      · exact h2 k (e' ▸ e)
      · rw [e'] at e; cases e; exact hB
    · have hk : Keeps (fun b => B b ∧ v.ownBlock ≠ some b) w w' := Keeps.of_grown k3 fun b _ hb e => hb.2 e.symm
      have hB' : ∀ b, b < w.heap.size → (B b ∧ v.ownBlock ≠ some b) → (B b ∧ v'.ownBlock ≠ some b) := fun b hl hb => by
        refine ⟨hb.1, fun e => ?_⟩
        rcases k5 with e' | e'
        · exact hb.2 (e' ▸ e)
        · rw [e'] at e; cases e; omega
      exact Cs.app (Cs.keep hk hB' M us g2) L vs (Cs.keep hk hB' L vs h3)
/-- the same, as a law of the walk -/
theorem wpList_append_items (w : World) {ops : Array Oper} {rest : List Oper} {o : Oper} {a : Act} {Q : Exit → Act → World → Prop} (hgd : Region.wanted o (yielded ops a.tmps) = true) (s x : Operand)
    (ho : o.op = .call { callee := .builtin .append, args := #[s, x], argTypes := #[29, 29] })
    (B : Nat → Prop) (v : Value) (L M : List I) (hs : a.eval s = v) (h : Its w B v L) (A : Option Addr) (m c : Nat) (hx : a.eval x = .slice A m c) (hm : M.length = m) (hM : Src w (fun b => B b ∧ v.ownBlock ≠ some b) A M)
    (h63 : L.length + m ≤ 4398046511104) (hB : B w.heap.size)
    (hn : ∀ v' w', Its w' B v' (L ++ M) → w.grownBy w' v.ownBlock → (v'.ownBlock = v.ownBlock ∨ v'.ownBlock = some w.heap.size) → wpList Try.prog ops Q rest (a.put o.dst v') w') :
    wpList Try.prog ops Q (o :: rest) a w := by
  refine wpList_step fun K hK => ?_
  rw [if_pos hgd]
  obtain ⟨v', w', hr, h2, h3, h5⟩ := append_items w o.type B v L M h A m c hm hM h63 hB
  unfold Oper.wp execOp
  simp only [ho, resolve, invoke, builtin, Sem.run_bind, Sem.run_pure, Result.andThen_ok, List.map_toArray, List.map_cons, List.map_nil, hs, hx, hr]
  exact hK _ _ (hn v' w' h2 h3 h5)
/-- one item, laid -/
theorem Src.lit (w : World) (B : Nat → Prop) (x : I) (A : Option Addr) (n : Nat) (h : SeenB w B A x.body) (k : Nat) (hk : x.body.length = k) : Src (w.alloc (.cells #[.int .i64 (x.code : Int), .slice A k n] 40)) B (some ⟨w.heap.size, 0, none⟩) [x] := by
  subst hk
  refine ⟨[.int .i64 (x.code : Int), .slice A x.body.length n], fun _ => ⟨w.heap.size, 0, rfl, by simp, fun i hi => ?_⟩, A, n, [], rfl, h.keep (Keeps.of_below (below_new _ _)) fun _ _ h => h, rfl⟩
  have := (Arr.new_at w [.int .i64 (x.code : Int), .slice A x.body.length n] _ 40 rfl).cell (List.getElem?_eq_getElem hi)
  rw [Nat.zero_add]
  exact this
end Go.Proofs.Ytfgneepilofkeaa.stream
