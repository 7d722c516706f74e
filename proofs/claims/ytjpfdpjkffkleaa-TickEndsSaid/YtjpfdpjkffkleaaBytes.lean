/-
  BYTES THAT A CALL MAKES, GROWS, WRITES AND COPIES: facts of the world, and laws of the walk. No function of the program.
-/
import Derived.Test.YtjpfdpjkffkleaaOctets
import Derived.Below
import Derived.Laws.CopyOwn
import Derived.Lib.SlBytesConst
namespace Go.Proofs.Ytjpfdpjkffkleaa.octets
open Go.RowKit

/-- block b has c cells, none frozen; the first of them are the bytes l -/
def Held (w : World) (b c : Nat) (l : List UInt8) : Prop :=
  l.length ≤ c ∧ c ≤ maxLen ∧ ∃ cur : Array Value, w.heap[b]? = some (.cells cur 5 (0, 0)) ∧ cur.size = c ∧ ∀ i (h : i < l.length), cur[i]? = some (.int .u8 (l[i].toNat : Int))
/-- v is a slice of the bytes l in memory of the call's own: nil, or its block is not below base -/
def Own (w : World) (base : Nat) (v : Value) (l : List UInt8) : Prop := w.ownsRow base 5 1 v l.length (vals l)

theorem Held.lt {w : World} {b c : Nat} {l : List UInt8} (h : Held w b c l) : b < w.heap.size := by
  obtain ⟨_, _, cur, hb, _⟩ := h
  exact (Array.getElem?_eq_some_iff.1 hb).1
theorem Held.cell {w : World} {b c : Nat} {l : List UInt8} (h : Held w b c l) {i : Nat} (hi : i < l.length) : w.cell? ⟨b, i, none⟩ = some (.int .u8 (l[i].toNat : Int)) := by
  obtain ⟨_, _, cur, hb, _, hc⟩ := h
  simp [World.cell?, hb, hc i hi]
theorem Held.frozen {w : World} {b c : Nat} {l : List UInt8} (h : Held w b c l) (i : Nat) : w.frozen? ⟨b, i, none⟩ = false := by
  obtain ⟨_, _, cur, hb, _⟩ := h
  simp [World.frozen?, hb]
theorem Held.of_block {w w' : World} {b c : Nat} {l : List UInt8} (h : Held w b c l) (e : w'.heap[b]? = w.heap[b]?) : Held w' b c l := by
  obtain ⟨h1, h2, cur, hb, hr⟩ := h
  exact ⟨h1, h2, cur, e.trans hb, hr⟩
theorem Held.below {w w' : World} {b c B : Nat} {l : List UInt8} (h : Held w b c l) (hb : Below B w w') (hB : b < B) : Held w' b c l := h.of_block (hb.block b hB)
theorem Held.since {w w' : World} {b c : Nat} {l : List UInt8} (h : Held w b c l) (hb : Below w.heap.size w w') : Held w' b c l := h.of_block (hb.block b h.lt)
theorem Held.alloc {w : World} {b c : Nat} {l : List UInt8} (h : Held w b c l) (o : Obj) : Held (w.alloc o) b c l := h.of_block (Go.Deep.blk_alloc_lt _ _ _ h.lt)
theorem Held.drewN {w : World} {b c : Nat} {l : List UInt8} (h : Held w b c l) (q : Nat) : Held (w.drewN q) b c l := h
theorem Held.other {w : World} {b c : Nat} {l : List UInt8} (h : Held w b c l) {a : Addr} (ha : b ≠ a.block) (v : Value) : Held (w.setCell a v) b c l := h.of_block (Go.Deep.blk_setCell_other _ _ _ _ ha)
theorem Held.set {w : World} {b c : Nat} {l : List UInt8} (h : Held w b c l) (i : Nat) (x : UInt8) : Held (w.setCell ⟨b, i, none⟩ (.int .u8 (x.toNat : Int))) b c (l.set i x) := by
  obtain ⟨h1, h2, cur, hb, hs, hc⟩ := h
  refine ⟨by simpa using h1, h2, cur.setIfInBounds i (.int .u8 (x.toNat : Int)), ?_, by simpa using hs, fun j hj => ?_⟩
  · simp [World.setCell, Array.getElem?_modify, hb]
  · have hj' : j < l.length := by simpa using hj
    rw [Array.getElem?_setIfInBounds, List.getElem_set]
    by_cases e : i = j
    · subst e
      simp [hs]; omega
    · rw [if_neg e, if_neg e]
      exact hc j hj'
theorem Held.seen {w : World} {b c : Nat} {l : List UInt8} (h : Held w b c l) : Seen w (some ⟨b, 0, none⟩) l := by
  intro _
  refine ⟨b, 0, rfl, h.lt, fun i hi => ?_⟩
  rw [Nat.zero_add, h.cell hi]
theorem Held.own {w : World} {base b c : Nat} {l : List UInt8} (h : Held w b c l) (hb : base ≤ b) : Own w base (.slice (some ⟨b, 0, none⟩) l.length c) l := by
  obtain ⟨h1, h2, cur, hh, hs, hc⟩ := h
  refine ⟨by rw [vals_len, Nat.mul_one], .inr ⟨b, c, cur, rfl, hb, hh, h1, h2, by omega, ?_⟩⟩
  rw [Nat.mul_one]
  apply List.ext_getElem?
  intro i
  by_cases hi : i < l.length
  · rw [vals_get hi, List.getElem?_take_of_lt hi, Array.getElem?_toList, hc i hi]
  · rw [List.getElem?_eq_none (by simp; omega), List.getElem?_eq_none (by rw [vals_len]; omega)]
theorem Own.held {w : World} {base : Nat} {v : Value} {l : List UInt8} (h : Own w base v l) (hne : 0 < l.length) : ∃ b c, v = .slice (some ⟨b, 0, none⟩) l.length c ∧ base ≤ b ∧ Held w b c l := by
  rcases h.2 with ⟨_, h0⟩ | ⟨g, cap, cur, rfl, hg, hh, hn, hm, hs, ht⟩
  · omega
  · refine ⟨g, cap, rfl, hg, hn, hm, cur, hh, by omega, fun i hi => ?_⟩
    have e : cur.toList[i]? = some (.int .u8 (l[i].toNat : Int)) := by
      rw [← vals_get hi, ← ht, List.getElem?_take_of_lt (by omega)]
    simpa using e
theorem Own.seen {w : World} {base : Nat} {v : Value} {l : List UInt8} (h : Own w base v l) : ∃ A c, v = .slice A l.length c ∧ Seen w A l := seen_own h
theorem Own.of_block {w w' : World} {base : Nat} {v : Value} {l : List UInt8} (h : Own w base v l) (e : ∀ g, v.ownBlock = some g → w'.heap[g]? = w.heap[g]?) : Own w' base v l := by
  obtain ⟨h1, h2⟩ := h
  refine ⟨h1, ?_⟩
  rcases h2 with h0 | ⟨g, cap, cur, rfl, hg, hh, hr⟩
  · exact .inl h0
  · exact .inr ⟨g, cap, cur, rfl, hg, (e g rfl).trans hh, hr⟩
theorem Own.lt {w : World} {base : Nat} {v : Value} {l : List UInt8} (h : Own w base v l) {g : Nat} (hg : v.ownBlock = some g) : base ≤ g ∧ g < w.heap.size := by
  rcases h.2 with ⟨rfl, _⟩ | ⟨g', cap, cur, rfl, hb, hh, _⟩
  · cases hg
  · obtain rfl : g' = g := by simpa [Value.ownBlock] using hg
    exact ⟨hb, (Array.getElem?_eq_some_iff.1 hh).1⟩
theorem Own.since {w w' : World} {base : Nat} {v : Value} {l : List UInt8} (h : Own w base v l) (hb : Below w.heap.size w w') : Own w' base v l := h.of_block fun g hg => hb.block g (h.lt hg).2
theorem Own.alloc {w : World} {base : Nat} {v : Value} {l : List UInt8} (h : Own w base v l) (o : Obj) : Own (w.alloc o) base v l := h.of_block fun _ hg => Go.Deep.blk_alloc_lt _ _ _ (h.lt hg).2
theorem Own.drewN {w : World} {base : Nat} {v : Value} {l : List UInt8} (h : Own w base v l) (q : Nat) : Own (w.drewN q) base v l := h
theorem Own.mono {w : World} {base base' : Nat} {v : Value} {l : List UInt8} (h : Own w base v l) (hb : base' ≤ base) : Own w base' v l := by
  obtain ⟨h1, h2⟩ := h
  refine ⟨h1, ?_⟩
  rcases h2 with h0 | ⟨g, cap, cur, rfl, hg, hr⟩
  · exact .inl h0
  · exact .inr ⟨g, cap, cur, rfl, by omega, hr⟩
theorem Own.none_ (w : World) (base : Nat) : Own w base (.slice none 0 0) [] := ⟨rfl, .inl ⟨rfl, rfl⟩⟩
theorem Own.empty (w : World) (base : Nat) (hb : base ≤ w.heap.size) : Own (w.alloc (.cells #[] 5)) base (.slice (some ⟨w.heap.size, 0, none⟩) 0 0) [] := own_none w base hb
theorem Row.held {w : World} {b : Nat} {l : List UInt8} (h : Row w b l) (hm : l.length ≤ maxLen) : Held w b l.length l := by
  obtain ⟨c, h1, h2, h3⟩ := h
  exact ⟨Nat.le_refl _, hm, c, h1, h2, fun i hi => by rw [h3 i hi]; simp [hi]⟩
theorem Held.row {w : World} {b : Nat} {l : List UInt8} (h : Held w b l.length l) : Row w b l := by
  obtain ⟨_, _, cur, hb, hs, hc⟩ := h
  exact ⟨cur, hb, hs, fun i hi => by rw [hc i hi]; simp [hi]⟩
/-- a literal of bytes -/
theorem Held.lit (w : World) (l : List UInt8) (cs : Array Value) (hs : cs = (vals l).toArray) (hm : l.length ≤ maxLen) : Held (w.alloc (.cells cs 5)) w.heap.size l.length l := by
  subst hs
  refine ⟨Nat.le_refl _, hm, _, Go.Deep.blk_alloc_new _ _, by simp [vals_len], fun i hi => ?_⟩
  rw [List.getElem?_toArray, vals_get hi]
/-- 'make([]byte, n)' -/
theorem Held.made (w : World) (n : Nat) (hm : n ≤ maxLen) : Held (w.alloc (.cells (madeCells #[.int .u8 0] n) 5)) w.heap.size n (List.replicate n 0) := by
  refine ⟨by simp, hm, _, Go.Deep.blk_alloc_new _ _, size_madeCells _ _, fun i hi => ?_⟩
  simp at hi
  simp [madeCells, hi, Nat.mod_one]

theorem Seen.take {w : World} {A : Option Addr} {l : List UInt8} (h : Seen w A l) (k : Nat) : Seen w A (l.take k) := by
  intro hn
  obtain ⟨b, o, e, hb, hc⟩ := h (by intro e; rw [e] at hn; simp at hn)
  refine ⟨b, o, e, hb, fun i hi => ?_⟩
  have hi' : i < l.length := by simp at hi; omega
  rw [hc i hi', List.getElem_take]
theorem Own.seen_at {w : World} {base : Nat} {v : Value} {l : List UInt8} (h : Own w base v l) {k : Nat} (hk : l.length = k) : ∃ A c, v = .slice A k c ∧ Seen w A l := by subst hk; exact h.seen
theorem Seen.below {w w' : World} {A : Option Addr} {l : List UInt8} (h : Seen w A l) {B : Nat} (hB : Below B w w') (hlt : ∀ a, A = some a → 0 < l.length → a.block < B) : Seen w' A l := by
  intro hn
  obtain ⟨b, o, rfl, hb, hc⟩ := h hn
  have hlt' := hlt _ rfl (List.length_pos_iff.2 hn)
  have hs := hB.size
  exact ⟨b, o, rfl, by omega, fun i hi => (hB.cell (p := ⟨b, o + i, none⟩) hlt').trans (hc i hi)⟩
theorem Seen.grown {w w' : World} {A : Option Addr} {l : List UInt8} (h : Seen w A l) {row : Option Nat} (hg : w.grownBy w' row) (hne : ∀ a, A = some a → some a.block ≠ row) : Seen w' A l := by
  intro hn
  obtain ⟨b, o, rfl, hb, hc⟩ := h hn
  have hs := hg.size
  exact ⟨b, o, rfl, by omega, fun i hi => (World.cell?_of_block (hg.block b hb (hne _ rfl))).trans (hc i hi)⟩
theorem Held.grown {w w' : World} {b c : Nat} {l : List UInt8} (h : Held w b c l) {row : Option Nat} (hg : w.grownBy w' row) (hne : some b ≠ row) : Held w' b c l := h.of_block (hg.block b h.lt hne)
theorem Own.grown {w w' : World} {base : Nat} {v : Value} {l : List UInt8} (h : Own w base v l) {row : Option Nat} (hg : w.grownBy w' row) (hne : ∀ g, v.ownBlock = some g → some g ≠ row) : Own w' base v l := h.of_block fun g e => hg.block g (h.lt e).2 (hne g e)
theorem Own.grew {w w' : World} {B base : Nat} {v : Value} {l : List UInt8} {w0 : World} (h : Own w base v l) (hb : Below B w0 w) (hB : B ≤ base) (hB2 : B ≤ w.heap.size) (hg : w.grownBy w' v.ownBlock) : Below B w0 w' :=
  hb.grown hg hB2 fun g e => by have := (h.lt e).1; omega

/-- what lies where s was copied over d -/
def laid (d s : List UInt8) : List UInt8 := s.take d.length ++ d.drop s.length
theorem laid_len (d s : List UInt8) : (laid d s).length = d.length := by simp [laid]; omega
theorem laid_old (D S : List UInt8) {i : Nat} (h : S.length ≤ i) (hi : i < D.length) : (laid D S)[i]'(by rw [laid_len]; exact hi) = D[i] := by
  have e : (laid D S)[i]? = D[i]? := by
    unfold laid
    rw [List.getElem?_append_right (by simp; omega), List.getElem?_drop]
    congr 1
    simp; omega
  rw [List.getElem?_eq_getElem (by rw [laid_len]; exact hi), List.getElem?_eq_getElem hi] at e
  exact Option.some.inj e
end Go.Proofs.Ytjpfdpjkffkleaa.octets
