/-
  WHAT IS ASKED OF seal's CODE: of which bytes a challenge, a proof, a key and a sealed body's tag are; the head of the statements of seal.
-/
import Derived.Test.YtmgfgbdfmdblhaaDoorMacTag
import Derived.Test.YtmgfgbdfmdblhaaDoorPackMath
import Derived.Test.YtmgfgbdfmdblhaaDoorSeen
import Derived.Lib.SlBytesConst
namespace Go.Proofs.YtmgfgbdfmdblhaaDoor.sealed
open Go.RowKit Go.Proofs.YtmgfgbdfmdblhaaDoor.octets Go.Proofs.YtmgfgbdfmdblhaaDoor.sha Go.Proofs.YtmgfgbdfmdblhaaDoor.mac
set_option linter.unusedVariables false
set_option linter.unusedSimpArgs false

/-- a number modulo 256, as a byte -/
def u8i (n : Int) : UInt8 := UInt8.ofNat (n % 256).toNat
/-- a number modulo 2^32 -/
def low32 (n : Int) : Nat := (n % 4294967296).toNat
def nonceB (k : List UInt8) (s n : Int) : List UInt8 := tagB k (78 :: u8i s :: octs 4 (low32 n))
def proofB (k : List UInt8) (s r : Int) (nn : List UInt8) : List UInt8 := tagB k (80 :: u8i s :: u8i r :: nn)
def keyW (k : List UInt8) (s r : Int) (nn : List UInt8) : List UInt8 := macB k (75 :: u8i s :: u8i r :: nn)
def closeB (key : List UInt8) (s : Int) (b : List UInt8) : List UInt8 := b ++ tagB key (77 :: u8i s :: b)
/-- what is opened -/
def openB (key : List UInt8) (s : Int) (l : List UInt8) : Option (List UInt8) := if 8 ≤ l.length ∧ closeB key s (l.take (l.length - 8)) = l then some (l.take (l.length - 8)) else none
theorem closeB_len (key : List UInt8) (s : Int) (b : List UInt8) : (closeB key s b).length = b.length + 8 := by rw [closeB, List.length_append, tagB_len]
theorem open_close (key : List UInt8) (s : Int) (b : List UInt8) : openB key s (closeB key s b) = some b := by
  have e : (closeB key s b).take ((closeB key s b).length - 8) = b := by rw [closeB_len, Nat.add_sub_cancel, closeB, List.take_left]
  unfold openB
  rw [e, if_pos ⟨by rw [closeB_len]; omega, rfl⟩]
/-- with a byte of the tag turned it is none -/
theorem open_turned (key : List UInt8) (s : Int) (b : List UInt8) (i : Nat) (x y : UInt8) (hi : i < 8) (hx : (closeB key s b)[b.length + i]? = some x) (hy : y ≠ x) : openB key s ((closeB key s b).set (b.length + i) y) = none := by
  have hl : ((closeB key s b).set (b.length + i) y).length = b.length + 8 := by rw [List.length_set, closeB_len]
  have ht : ((closeB key s b).set (b.length + i) y).take b.length = b := by
    rw [List.take_set_of_le (by omega), closeB, List.take_left]
  unfold openB
  rw [hl, Nat.add_sub_cancel, ht, if_neg]
  rintro ⟨_, e⟩
  rw [e, List.getElem?_set_self (by rw [closeB_len]; omega)] at hx
  exact hy (Option.some.inj hx)
/-- how it is turned -/
theorem turn_ne (x : UInt8) (h : UInt8) : x ^^^ (1 + h % 255) ≠ x := by
  intro e
  have h0 : (1 + h % 255) ≠ 0 := by
    intro e0
    have e1 := congrArg UInt8.toNat e0
    rw [UInt8.toNat_add, UInt8.toNat_mod] at e1
    have e2 : (255 : UInt8).toNat = 255 := rfl
    have e3 : (1 : UInt8).toNat = 1 := rfl
    have e4 : (0 : UInt8).toNat = 0 := rfl
    rw [e2, e3, e4] at e1
    omega
  apply h0
  have := congrArg (x ^^^ ·) e
  simpa [← UInt8.xor_assoc] using this
theorem open_short {key l : List UInt8} {s : Int} (h : l.length < 8) : openB key s l = none := by unfold openB; rw [if_neg (by omega)]
theorem u8i_val (n : Int) : ((u8i n).toNat : Int) = n % 256 := by
  unfold u8i
  rw [UInt8.toNat_ofNat']
  omega
/-- what is asked of the code -/
structure CodeOk : Prop where
  nonce : ∀ (A : Option Addr) (n c : Nat) (k : List UInt8) (s m : Int) (w : World), k.length = n → n ≤ c → n ≤ 1048576 → Seen w A k → Table w → -9223372036854775808 ≤ m → m ≤ 9223372036854775807 →
    Calls Tryd.prog 13 #[.slice A n c, .int .i64 s, .int .i64 m] w fun e w' => e = .returned (.agg (vals (nonceB k s m)).toArray) ∧ Below w.heap.size w w'
  proof : ∀ (A : Option Addr) (n c : Nat) (k nn : List UInt8) (s r : Int) (w : World), k.length = n → n ≤ c → n ≤ 1048576 → nn.length = 8 → Seen w A k → Table w →
    Calls Tryd.prog 10 #[.slice A n c, .int .i64 s, .int .i64 r, .agg (vals nn).toArray] w fun e w' => e = .returned (.agg (vals (proofB k s r nn)).toArray) ∧ Below w.heap.size w w'
  key : ∀ (A : Option Addr) (n c : Nat) (k nn : List UInt8) (s r : Int) (w : World), k.length = n → n ≤ c → n ≤ 1048576 → nn.length = 8 → Seen w A k → Table w →
    Calls Tryd.prog 11 #[.slice A n c, .int .i64 s, .int .i64 r, .agg (vals nn).toArray] w fun e w' => e = .returned (.agg (vals (keyW k s r nn)).toArray) ∧ Below w.heap.size w w'
  close : ∀ (key : List UInt8) (A : Option Addr) (n c : Nat) (b : List UInt8) (s : Int) (w : World), key.length = 32 → b.length = n → n ≤ c → n ≤ 1000000 → Seen w A b → Table w →
    Calls Tryd.prog 7 #[.agg (vals key).toArray, .int .i64 s, .slice A n c] w fun e w' => ∃ v, e = .returned v ∧ Own w' w.heap.size v (closeB key s b) ∧ Below w.heap.size w w'
  open_ : ∀ (key : List UInt8) (A : Option Addr) (n c : Nat) (l : List UInt8) (s : Int) (w : World), key.length = 32 → l.length = n → n ≤ c → n ≤ 1000000 → Seen w A l → Table w →
    Calls Tryd.prog 9 #[.agg (vals key).toArray, .int .i64 s, .slice A n c] w fun e w' => ∃ v, e = .returned (.tuple #[v, .int .i64 (if (openB key s l).isSome = true then 0 else 14)]) ∧ Own w' w.heap.size v ((openB key s l).getD []) ∧ Below w.heap.size w w'
theorem CodeOk.open_yes (H : CodeOk) (key b : List UInt8) (A : Option Addr) (n c : Nat) (l : List UInt8) (s : Int) (w : World) (hk : key.length = 32) (hl : l.length = n) (hc : n ≤ c) (hn : n ≤ 1000000) (hs : Seen w A l) (hK : Table w) (he : openB key s l = some b) :
    Calls Tryd.prog 9 #[.agg (vals key).toArray, .int .i64 s, .slice A n c] w fun e w' => ∃ v, e = .returned (.tuple #[v, .int .i64 0]) ∧ Own w' w.heap.size v b ∧ Below w.heap.size w w' := by
  have := H.open_ key A n c l s w hk hl hc hn hs hK
  rw [he] at this
  exact this
theorem CodeOk.open_no (H : CodeOk) (key : List UInt8) (A : Option Addr) (n c : Nat) (l : List UInt8) (s : Int) (w : World) (hk : key.length = 32) (hl : l.length = n) (hc : n ≤ c) (hn : n ≤ 1000000) (hs : Seen w A l) (hK : Table w) (he : openB key s l = none) :
    Calls Tryd.prog 9 #[.agg (vals key).toArray, .int .i64 s, .slice A n c] w fun e w' => ∃ v, e = .returned (.tuple #[v, .int .i64 14]) ∧ Own w' w.heap.size v [] ∧ Below w.heap.size w w' := by
  have := H.open_ key A n c l s w hk hl hc hn hs hK
  rw [he] at this
  exact this
theorem own_cap {w : World} {base n : Nat} {v : Value} {l : List UInt8} (h : Own w base v l) (hn : l.length = n) : ∃ A c, v = .slice A n c ∧ n ≤ c ∧ Seen w A l := by
  rcases h.2 with ⟨rfl, h0⟩ | ⟨g, cap, cur, rfl, hg, hh, hnc, hm, hs, ht⟩
  · rw [hn] at h0
    subst h0
    exact ⟨none, 0, rfl, Nat.le_refl _, by rw [List.eq_nil_of_length_eq_zero hn]; exact Seen.none_ _ _⟩
  · obtain ⟨A, c, e, hse⟩ := h.seen
    injection e with e1 e2 e3
    subst e1
    exact ⟨_, cap, by rw [hn], by omega, hse⟩
set_option maxHeartbeats 400000 in
theorem few_ok (A : Option Addr) (n cap m : Nat) (w : World) (hc : n ≤ cap) (hm : m = min n 60) :
    Calls Tryd.prog 6 #[.slice A n cap] w fun e w' => e = .returned (.slice A m cap) ∧ w = w' := by
  have hs := slice_h A n cap m (by omega)
  have em : min (n : Int) 60 = (m : Int) := by omega
  clear hm
  go_enter Tryd.func6, Tryd.ntmps6
  go_wp2
  go_ret
  exact ⟨rfl, rfl⟩
def key1 : List UInt8 := 1 :: List.replicate 31 0
set_option maxRecDepth 100000 in
set_option maxHeartbeats 1000000 in
theorem shown_any (H : CodeOk) (w : World) (hK : Table w) : Calls Tryd.prog 5 #[] w fun e w' => e = .returned (.bool true) ∧ Below w.heap.size w w' := by
  have hmk : ∀ W, (Instr.makeSlice 23 (.int .i64 7) (.int .i64 7)).run Tryd.prog W = .ok (.slice (some ⟨W.heap.size, 0, none⟩) 7 7) (W.alloc (.cells (madeCells #[.int .u8 0] 7) 5)) := fun W => run_make_row' (P := Tryd.prog) 23 5 (.int .u8 0) 1 Tryd.underlying23 u8_info rfl .i64 .i64 7 (by omega) (by omega) W
  have kc := fun (w : World) (C : Array Value) (n c : Nat) => Lib.run_convert_bytes_const (P := Tryd.prog) w 23 5 C n c Tryd.underlying23 Tryd.underlying5
  have q1 : ∀ (A : Option Addr) (c : Nat) (W : World), 7 ≤ c → Seen W A (List.replicate 7 0) → Table W → Calls Tryd.prog 9 #[.agg #[.int .u8 1, .int .u8 0, .int .u8 0, .int .u8 0, .int .u8 0, .int .u8 0, .int .u8 0, .int .u8 0, .int .u8 0, .int .u8 0, .int .u8 0, .int .u8 0, .int .u8 0, .int .u8 0, .int .u8 0, .int .u8 0, .int .u8 0, .int .u8 0, .int .u8 0, .int .u8 0, .int .u8 0, .int .u8 0, .int .u8 0, .int .u8 0, .int .u8 0, .int .u8 0, .int .u8 0, .int .u8 0, .int .u8 0, .int .u8 0, .int .u8 0, .int .u8 0], .int .i64 1, .slice A 7 c] W fun e w' => ∃ v, e = .returned (.tuple #[v, .int .i64 14]) ∧ Own w' W.heap.size v [] ∧ Below W.heap.size W w' := fun A c W hc hs hK => H.open_no key1 A 7 c (List.replicate 7 0) 1 W rfl rfl hc (by decide) hs hK (open_short (by decide))
  have q2 : ∀ (A : Option Addr) (c : Nat) (W : World), 1 ≤ c → Seen W A [120] → Table W → Calls Tryd.prog 7 #[.agg #[.int .u8 1, .int .u8 0, .int .u8 0, .int .u8 0, .int .u8 0, .int .u8 0, .int .u8 0, .int .u8 0, .int .u8 0, .int .u8 0, .int .u8 0, .int .u8 0, .int .u8 0, .int .u8 0, .int .u8 0, .int .u8 0, .int .u8 0, .int .u8 0, .int .u8 0, .int .u8 0, .int .u8 0, .int .u8 0, .int .u8 0, .int .u8 0, .int .u8 0, .int .u8 0, .int .u8 0, .int .u8 0, .int .u8 0, .int .u8 0, .int .u8 0, .int .u8 0], .int .i64 1, .slice A 1 c] W fun e w' => ∃ v, e = .returned v ∧ Own w' W.heap.size v (closeB key1 1 [120]) ∧ Below W.heap.size W w' := fun A c W hc hs hK => H.close key1 A 1 c [120] 1 W rfl rfl hc (by decide) hs hK
  have q3 : ∀ (A : Option Addr) (c : Nat) (W : World), 9 ≤ c → Seen W A (closeB key1 1 [120]) → Table W → Calls Tryd.prog 9 #[.agg #[.int .u8 1, .int .u8 0, .int .u8 0, .int .u8 0, .int .u8 0, .int .u8 0, .int .u8 0, .int .u8 0, .int .u8 0, .int .u8 0, .int .u8 0, .int .u8 0, .int .u8 0, .int .u8 0, .int .u8 0, .int .u8 0, .int .u8 0, .int .u8 0, .int .u8 0, .int .u8 0, .int .u8 0, .int .u8 0, .int .u8 0, .int .u8 0, .int .u8 0, .int .u8 0, .int .u8 0, .int .u8 0, .int .u8 0, .int .u8 0, .int .u8 0, .int .u8 0], .int .i64 1, .slice A 9 c] W fun e w' => ∃ v, e = .returned (.tuple #[v, .int .i64 0]) ∧ Own w' W.heap.size v [120] ∧ Below W.heap.size W w' := fun A c W hc hs hK => H.open_yes key1 [120] A 9 c _ 1 W rfl (by rw [closeB_len]; rfl) hc (by decide) hs hK (open_close _ _ _)
  replace q1 := Lib.hid q1
  replace q2 := Lib.hid q2
  replace q3 := Lib.hid q3
  go_enter Tryd.func5, Tryd.ntmps5
  go_wp2_with fail
  have hH1 := Held.made w 7 (by decide)
  have hw1 : Below w.heap.size w (w.alloc (.cells (madeCells #[.int .u8 0] 7) 5)) := (Below.refl _ _).alloc (Nat.le_refl _) _
  refine (q1.out _ 7 _ (by decide) hH1.seen (hK.since hw1)).mono ?_
  rintro e w2 ⟨v2, rfl, _, hb2⟩
  have hw2 := hw1.trans (hb2.mono hw1.size)
  clear hH1 hw1 hb2 hmk
  go_wp2_with fail
  have s3 := seen_lit w2 [120] #[.int .u8 120] (1, 2) rfl
  have hb3 : Below w2.heap.size w2 (w2.alloc (.cells #[.int .u8 120] 5 (1, 2))) := (Below.refl _ _).alloc (Nat.le_refl _) _
  have hw3 := hw2.trans (hb3.mono hw2.size)
  refine (q2.out _ 1 _ (by decide) s3 (hK.since hw3)).mono ?_
  rintro e w4 ⟨v4, rfl, ho4, hb4⟩
  have hw4 := hw3.trans (hb4.mono hw3.size)
  obtain ⟨A4, c4, rfl, hc4, s4⟩ := own_cap ho4 (n := 9) (by rw [closeB_len]; rfl)
  clear s3 hb3 hw3 hw2 hb4 ho4
  go_wp2_with fail
  refine (q3.out _ c4 _ hc4 s4 (hK.since hw4)).mono ?_
  rintro e w5 ⟨v5, rfl, ho5, hb5⟩
  have hw5 := hw4.trans (hb5.mono hw4.size)
  obtain ⟨A5, c5, rfl, hc5, s5⟩ := own_cap ho5 (n := 1) rfl
  have hstr := s5.str 1 c5 rfl ⟨#[120]⟩ rfl
  clear s4 hw4 hb5 ho5 hc4
  go_wp2
  go_ret
  exact ⟨rfl, hw5⟩
end Go.Proofs.YtmgfgbdfmdblhaaDoor.sealed
