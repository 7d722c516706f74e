/-
  ROWS OF FIELDS IN MEMORY; the contract of axes.
-/
import Derived.Test.YtmibgmcgicphoaaMsgFd2
import Derived.Test.YtmibgmcgicphoaaMore
namespace Go.Proofs.Ytmibgmcgicphoaa.msg
open Go.RowKit Go.Proofs.Ytmibgmcgicphoaa.octets Go.Proofs.Ytmibgmcgicphoaa.pack
set_option linter.unusedVariables false
set_option linter.unusedSimpArgs false
variable {S : Type} {enc : S → List Value} {good : S → Prop} {g : Nat}

/-- cells that are fields -/
def Fds (enc : S → List Value) (good : S → Prop) (g : Nat) (B : Nat → Prop) (W : World) : List (FD S) → List Value → Prop
  | [], vs => vs = []
  | d :: ds, vs => ∃ us ts, vs = us ++ ts ∧ FieldAt enc good g B W d us ∧ Fds enc good g B W ds ts
theorem Fds.keep {B B' : Nat → Prop} {W W' : World} (hg : Keeps B W W') (hB : ∀ b, b < W.heap.size → B b → B' b) : ∀ {ds : List (FD S)} {vs : List Value}, Fds enc good g B W ds vs → Fds enc good g B' W' ds vs
  | [], vs, h => h
  | d :: ds, vs, ⟨us, ts, h1, h2, h3⟩ => ⟨us, ts, h1, h2.keep hg hB, Fds.keep hg hB h3⟩
theorem Fds.since {B : Nat → Prop} {W W' : World} (hb : Below W.heap.size W W') {ds : List (FD S)} {vs : List Value} (h : Fds enc good g B W ds vs) : Fds enc good g B W' ds vs := Fds.keep (Keeps.of_below hb) (fun _ _ h => h) h
theorem Fds.mono {B B' : Nat → Prop} {W : World} (hB : ∀ b, b < W.heap.size → B b → B' b) {ds : List (FD S)} {vs : List Value} (h : Fds enc good g B W ds vs) : Fds enc good g B' W ds vs := Fds.keep (Keeps.refl _ _) hB h
theorem Fds.len {B : Nat → Prop} {W : World} : ∀ {ds : List (FD S)} {vs : List Value}, Fds enc good g B W ds vs → vs.length = ds.length * 3
  | [], vs, h => by
    have h : vs = [] := h
    subst h; rfl
  | d :: ds, vs, ⟨us, ts, h1, h2, h3⟩ => by
    have := h3.len
    subst h1
    rw [List.length_append, h2.len, this, List.length_cons]
    omega
theorem Fds.app {B : Nat → Prop} {W : World} {es : List (FD S)} {us : List Value} (he : Fds enc good g B W es us) : ∀ {ds : List (FD S)} {vs : List Value}, Fds enc good g B W ds vs → Fds enc good g B W (ds ++ es) (vs ++ us)
  | [], vs, h => by
    have h : vs = [] := h
    subst h; exact he
  | d :: ds, vs, ⟨ws, ts, h1, h2, h3⟩ => ⟨ws, ts ++ us, by rw [h1, List.append_assoc], h2, Fds.app he h3⟩
theorem Fds.one {B : Nat → Prop} {W : World} : ∀ {ds : List (FD S)} {vs : List Value}, Fds enc good g B W ds vs → ∀ u ∈ vs, u.oneCell' = true
  | [], vs, h, u, hu => by
    have h : vs = [] := h
    subst h; cases hu
  | d :: ds, vs, ⟨us, ts, h1, h2, h3⟩, u, hu => by
    subst h1
    rcases List.mem_append.1 hu with hu | hu
    · exact h2.one u hu
    · exact h3.one u hu
theorem Fds.get {B : Nat → Prop} {W : World} : ∀ {ds : List (FD S)} {vs : List Value}, Fds enc good g B W ds vs → ∀ i (h : i < ds.length), ∃ us, FieldAt enc good g B W ds[i] us ∧ ∀ j, j < 3 → vs[i * 3 + j]? = us[j]?
  | [], vs, h, i, hi => by simp at hi
  | d :: ds, vs, ⟨us, ts, h1, h2, h3⟩, 0, hi => ⟨us, h2, fun j hj => by
      rw [h1, Nat.zero_mul, Nat.zero_add, List.getElem?_append_left (by rw [h2.len]; exact hj)]⟩
  | d :: ds, vs, ⟨us, ts, h1, h2, h3⟩, i + 1, hi => by
    obtain ⟨ws, k1, k2⟩ := Fds.get h3 i (by simpa using hi)
    refine ⟨ws, k1, fun j hj => ?_⟩
    rw [h1, List.getElem?_append_right (by rw [h2.len]; omega), h2.len, show (i + 1) * 3 + j - 3 = i * 3 + j by omega]
    exact k2 j hj

/-- the cells vs lie at A -/
def Grid (w : World) (A : Option Addr) (vs : List Value) : Prop := vs ≠ [] → ∃ b o, A = some ⟨b, o, none⟩ ∧ b < w.heap.size ∧ ∀ i (h : i < vs.length), w.cell? ⟨b, o + i, none⟩ = some vs[i]
theorem Grid.keep {w w' : World} {A : Option Addr} {vs : List Value} (h : Grid w A vs) (hb : Below w.heap.size w w') : Grid w' A vs := fun hn => by
  obtain ⟨b, o, h1, h2, h3⟩ := h hn
  exact ⟨b, o, h1, Nat.lt_of_lt_of_le h2 hb.size, fun i hi => (World.cell?_of_block (hb.block b h2)).trans (h3 i hi)⟩
theorem Grid.grown {w w' : World} {A : Option Addr} {vs : List Value} (h : Grid w A vs) {r : Option Nat} (hg : w.grownBy w' r) (hA : ∀ a, A = some a → some a.block ≠ r) : Grid w' A vs := fun hn => by
  obtain ⟨b, o, h1, h2, h3⟩ := h hn
  exact ⟨b, o, h1, Nat.lt_of_lt_of_le h2 hg.size, fun i hi => (World.cell?_of_block (hg.block b h2 (hA _ h1))).trans (h3 i hi)⟩
theorem Grid.at_ {w : World} {A : Option Addr} {vs : List Value} (h : Grid w A vs) {k : Nat} (hk : k < vs.length) : ∃ b o, A = some ⟨b, o, none⟩ ∧ b < w.heap.size ∧ ∀ i (h : i < vs.length), w.cell? ⟨b, o + i, none⟩ = some vs[i] := h (by intro e; simp [e] at hk)
theorem Grid.own {w : World} {base size n : Nat} {e : TypeId} {v : Value} {vs : List Value} (h : w.ownsRow base e size v n vs) : ∃ A c, v = .slice A n c ∧ n ≤ c ∧ Grid w A vs ∧ ∀ a, A = some a → v.ownBlock = some a.block := by
  rcases h.2 with ⟨rfl, h0⟩ | ⟨g, cap, cur, rfl, _, hh, hn, _, hs, ht⟩
  · have h1 := h.1
    subst h0
    have : vs = [] := List.eq_nil_of_length_eq_zero (by simpa using h1)
    subst this
    exact ⟨none, 0, rfl, Nat.le_refl _, fun h => absurd rfl h, fun a ha => by cases ha⟩
  · refine ⟨_, cap, rfl, hn, fun _ => ⟨g, 0, rfl, (Array.getElem?_eq_some_iff.1 hh).1, fun i hi => ?_⟩, fun a ha => by cases ha; rfl⟩
    have hl : n * size ≤ cur.toList.length := by
      rw [Array.length_toList, hs]
      exact Nat.mul_le_mul_right _ hn
    have e : cur.toList[i]? = some vs[i] := by
      rw [← List.getElem?_eq_getElem hi, ← ht, List.getElem?_take_of_lt (by rw [h.1] at hi; exact hi)]
    rw [Nat.zero_add]
    simp [World.cell?, hh] at e ⊢
    exact e
theorem Grid.new (w : World) (vs : List Value) (C : Array Value) (t : TypeId) (e : C = vs.toArray) : Grid (w.alloc (.cells C t)) (some ⟨w.heap.size, 0, none⟩) vs := fun _ =>
  ⟨w.heap.size, 0, rfl, by simp, fun i hi => by rw [Nat.zero_add]; exact (Arr.new_at w vs C t e).cell (List.getElem?_eq_getElem hi)⟩

theorem field_info : (Try.prog.info? 66).map (fun i => (i.zero, i.size, i.bytes)) = some (some (.agg #[.int .i64 0, .nilFunc, .nilFunc]), 3, 24) := by kernel_rfl
/-- a row of fields of the call's own -/
def Own3 (enc : S → List Value) (good : S → Prop) (g base : Nat) (w : World) (v : Value) (ds : List (FD S)) : Prop := ∃ vs, w.ownsRow base 66 3 v ds.length vs ∧ Fds enc good g (fun b => base ≤ b ∧ v.ownBlock ≠ some b) w ds vs
/-- a row of fields of whatever make, not in block k -/
def Src3 (enc : S → List Value) (good : S → Prop) (g base : Nat) (w : World) (k : Option Nat) (A : Option Addr) (ds : List (FD S)) : Prop := ∃ vs, Grid w A vs ∧ Fds enc good g (fun b => base ≤ b ∧ k ≠ some b) w ds vs
/-- 'append' of fields -/
theorem append_fields (w : World) (ty : TypeId) (base : Nat) (v : Value) (ds es : List (FD S)) (h : Own3 enc good g base w v ds) (A : Option Addr) (m c : Nat) (hm : es.length = m) (hM : Src3 enc good g base w v.ownBlock A es)
    (h63 : ds.length + m ≤ 4398046511104) (hB : base ≤ w.heap.size) :
    ∃ v' w', (Builtin.append_ #[49, 49] ty #[v, .slice A m c]).run Try.prog w = .ok v' w' ∧ Own3 enc good g base w' v' (ds ++ es) ∧ w.grownBy w' v.ownBlock ∧ (v'.ownBlock = v.ownBlock ∨ v'.ownBlock = some w.heap.size) := by
  subst hm
  obtain ⟨vs, h1, h3⟩ := h
  obtain ⟨us, g1, g2⟩ := hM
  obtain ⟨i, hi, hz, hs, hby⟩ := info_parts field_info
  have hul := g2.len
  rcases A with _ | ad
  · have hu : us = [] := by
      rcases Classical.em (us = []) with h0 | h0
      · exact h0
      · obtain ⟨_, _, e, _⟩ := g1 h0; cases e
    have : es = [] := by
      subst hu
      apply List.eq_nil_of_length_eq_zero
      simp at hul; omega
    subst this
    refine ⟨v, w, ?_, by rw [List.append_nil]; exact ⟨vs, h1, h3⟩, World.grownBy.refl _ _, .inl rfl⟩
    rcases h1.2 with ⟨rfl, h0⟩ | ⟨k, cap, cur, rfl, _, _, hnc, _⟩
    · simp [Builtin.append_, run_underlying Try.underlying49, sizeOf, typeInfo, hi, Builtin.lenOf, Builtin.firstCells]
    · simp [Builtin.append_, run_underlying Try.underlying49, sizeOf, typeInfo, hi, Builtin.lenOf, Builtin.firstCells, hnc, storeCells]
  · obtain ⟨v', w', k1, k2, k3, _, k5⟩ := run_append_own_at (P := Try.prog) w base 49 ty 66 i _ 3 24 Try.underlying49 hi hz hs hby rfl (by decide) v ds.length vs h1 ad es.length c us hul
      (fun j u hu => by
        have hj := (List.getElem?_eq_some_iff.1 hu).1
        obtain ⟨b, o, e, _, hc⟩ := g1.at_ hj
        injection e with e
        subst e
        have := hc j hj
        rw [← List.getElem?_eq_getElem hj, hu] at this
        unfold Addr.add
        split
        · rename_i h0; subst h0; simpa using this
        · exact this) (g2.one) (by simp only [maxLen]; omega) (by omega) hB
    refine ⟨v', w', k1, ⟨vs ++ us, by rw [List.length_append]; exact k2, ?_⟩, k3, k5⟩
    have hk : Keeps (fun b => base ≤ b ∧ v.ownBlock ≠ some b) w w' := ⟨k3.size, fun b hb hl => k3.block b hl fun e => hb.2 e.symm⟩
    have hB' : ∀ b, b < w.heap.size → (base ≤ b ∧ v.ownBlock ≠ some b) → (base ≤ b ∧ v'.ownBlock ≠ some b) := fun b hl hb => by
      refine ⟨hb.1, fun e => ?_⟩
      rcases k5 with e' | e'
      · exact hb.2 (e' ▸ e)
      · rw [e'] at e; cases e; omega
    exact Fds.app (Fds.keep hk hB' g2) (Fds.keep hk hB' h3)
theorem wpList_append_fields (w : World) {ops : Array Oper} {rest : List Oper} {o : Oper} {a : Act} {Q : Exit → Act → World → Prop} (hgd : Region.wanted o (yielded ops a.tmps) = true) (s x : Operand)
    (ho : o.op = .call { callee := .builtin .append, args := #[s, x], argTypes := #[49, 49] })
    (base : Nat) (v : Value) (ds es : List (FD S)) (hs : a.eval s = v) (h : Own3 enc good g base w v ds) (A : Option Addr) (m c : Nat) (hx : a.eval x = .slice A m c) (hm : es.length = m) (hM : Src3 enc good g base w v.ownBlock A es)
    (h63 : ds.length + m ≤ 4398046511104) (hB : base ≤ w.heap.size)
    (hn : ∀ v' w', Own3 enc good g base w' v' (ds ++ es) → w.grownBy w' v.ownBlock → (v'.ownBlock = v.ownBlock ∨ v'.ownBlock = some w.heap.size) → wpList Try.prog ops Q rest (a.put o.dst v') w') :
    wpList Try.prog ops Q (o :: rest) a w := by
  refine wpList_step fun K hK => ?_
  rw [if_pos hgd]
  obtain ⟨v', w', hr, h2, h3, h5⟩ := append_fields w o.type base v ds es h A m c hm hM h63 hB
  unfold Oper.wp execOp
  simp only [ho, resolve, invoke, builtin, Sem.run_bind, Sem.run_pure, Result.andThen_ok, List.map_toArray, List.map_cons, List.map_nil, hs, hx, hr]
  exact hK _ _ (hn v' w' h2 h3 h5)
theorem Own3.nil (w : World) (base : Nat) : Own3 enc good g base w (.slice none 0 0) [] := ⟨[], World.ownsRow_nil _ _ _ _, rfl⟩
theorem Own3.lt {w : World} {base : Nat} {v : Value} {ds : List (FD S)} (h : Own3 enc good g base w v ds) {k : Nat} (hk : v.ownBlock = some k) : base ≤ k ∧ k < w.heap.size := by
  obtain ⟨vs, h1, _⟩ := h
  exact h1.lt k hk
theorem Own3.since {w w' : World} {base : Nat} {v : Value} {ds : List (FD S)} (h : Own3 enc good g base w v ds) (hb : Below w.heap.size w w') : Own3 enc good g base w' v ds := by
  obtain ⟨vs, h1, h3⟩ := h
  refine ⟨vs, ⟨h1.1, ?_⟩, h3.since hb⟩
  rcases h1.2 with hn | ⟨k, cap, cur, rfl, hk, hgg, rest⟩
  · exact .inl hn
  · exact .inr ⟨k, cap, cur, rfl, hk, (hb.block k (Array.getElem?_eq_some_iff.1 hgg).1).trans hgg, rest⟩
theorem Own3.src {w : World} {base : Nat} {v : Value} {ds : List (FD S)} (h : Own3 enc good g base w v ds) : ∃ A c, v = .slice A ds.length c ∧ ds.length ≤ c ∧ (∀ a, A = some a → v.ownBlock = some a.block) ∧ Src3 enc good g base w v.ownBlock A ds := by
  obtain ⟨vs, h1, h3⟩ := h
  obtain ⟨A, c, rfl, hc, hg, ha⟩ := Grid.own h1
  exact ⟨A, c, rfl, hc, ha, vs, hg, h3⟩

set_option maxRecDepth 100000 in
set_option maxHeartbeats 1000000 in
theorem axes_fd (D : Nat → FD S) (i0 : Nat) (w : World) (hg : g < w.heap.size) (hD : ∀ i, i < 4 → ∀ W : World, g < W.heap.size → Calls Try.prog 49 #[.pointer (some ⟨g, i0 + i, none⟩)] W (Makes enc good g W (D i))) :
    Calls Try.prog 42 #[.pointer (some ⟨g, i0, none⟩)] w fun e w' => ∃ v, e = .returned v ∧ Own3 enc good g w.heap.size w' v ((List.range 4).map D) ∧ Below w.heap.size w w' := by
  replace hD := Lib.hid hD
  go_enter Try.func42, Try.ntmps42
  go_wp2
  go_loopw [3, 5] (fun v t W => ∃ i : Nat, i ≤ 4 ∧ t = .int .i64 i ∧ Below w.heap.size w W ∧ Own3 enc good g w.heap.size W v ((List.range i).map D)) (fun _ t _ => 4 - (intOf t).toNat)
  case atStart => exact ⟨0, by omega, rfl, Below.refl _ _, Own3.nil _ _⟩
  case round =>
    obtain ⟨i, hi, rfl, hw, hO⟩ := hrel
    by_cases hlt : i < 4
    · have hz := hw.size
      have hc := Lib.hid (hD.out i hlt wr (by omega))
      go_wp2_with fail
      (with_reducible refine hc.out.mono ?_)
      intro e w2 hm
      obtain ⟨k, f, f', rfl, q1, q2, hF, hb2⟩ := hm.open_
      clear hm hc
      have hb3 : Below w2.heap.size w2 (w2.alloc (.cells #[.int .i64 k, f, f'] 66)) := (Below.refl _ _).alloc (Nat.le_refl _) _
      have hO3 := (hO.since hb2).since hb3
      have hw3 := (hw.trans (hb2.mono hz)).trans (hb3.mono (Nat.le_trans hz hb2.size))
      have hM : Src3 enc good g w.heap.size (w2.alloc (.cells #[.int .i64 k, f, f'] 66)) u3.ownBlock (some ⟨w2.heap.size, 0, none⟩) [D i] :=
        ⟨_, Grid.new w2 [.int .i64 k, f, f'] _ _ rfl, _, [], (List.append_nil _).symm, hF.keep (Keeps.of_below hb3) (fun b _ hb => ⟨Nat.le_trans hz hb, fun e => by have := (hO.lt e).2; omega⟩), rfl⟩
      have hsz := hw3.size
      clear hO hF hw hb2
      go_wp2_with (at_builtin; refine wpList_append_fields _ rfl _ _ rfl w.heap.size _ _ [D i] rfl hO3 (some ⟨w2.heap.size, 0, none⟩) 1 1 rfl rfl hM (by simp; omega) hsz ?_)
      intro v4 w4 hO4 hg4 hat4
      have hw4 : Below w.heap.size w w4 := hw3.grown hg4 hsz fun k e => (hO3.lt e).1
      clear hO3 hM hb3 hw3 hg4 hat4
      go_wp2
      go_roundw
      case rel => exact ⟨i + 1, by omega, by go_num, hw4, by rw [List.range_succ, List.map_append]; exact hO4⟩
      case measure => simp [intOf]; omega
    · obtain rfl : i = 4 := by omega
      go_wp2
      go_ret
      exact ⟨_, rfl, hO, hw⟩
end Go.Proofs.Ytmibgmcgicphoaa.msg
