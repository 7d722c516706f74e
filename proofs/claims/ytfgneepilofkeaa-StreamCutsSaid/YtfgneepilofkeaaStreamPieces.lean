/-
  WHAT THE STATEMENTS OF stream MAKE OF THE PIECES THAT THEY ARE HANDED: few, joined.
-/
import Derived.Test.YtfgneepilofkeaaStreamTake
import Derived.Test.YtfgneepilofkeaaStreamSame
import Derived.BigRegion
import Derived.Deep.RegionLaw
import Derived.Lib.AppendZeros
namespace Go.Proofs.Ytfgneepilofkeaa.stream
open Go.RowKit Go.Proofs.Ytfgneepilofkeaa.octets Go.Proofs.Ytfgneepilofkeaa.frame
set_option linter.unusedVariables false
set_option linter.unusedSimpArgs false

/-- cells that are slices of bytes -/
def Ps (w : World) (L : List (List UInt8)) (vs : List Value) : Prop := vs.length = L.length ∧ ∀ i (h : i < L.length), ∃ A c, vs[i]? = some (.slice A L[i].length c) ∧ L[i].length ≤ c ∧ Seen w A L[i]
def fewL (L : List (List UInt8)) : List (List UInt8) := (L.take 20).map (·.take 100)
theorem fewL_len (L : List (List UInt8)) : (fewL L).length ≤ 20 := by simp [fewL]; omega
theorem fewL_each (L : List (List UInt8)) : ∀ l ∈ fewL L, l.length ≤ 100 := by
  intro l hl
  simp only [fewL, List.mem_map] at hl
  obtain ⟨m, _, rfl⟩ := hl
  simp; omega
theorem Ps.since {w w' : World} {L : List (List UInt8)} {vs : List Value} (h : Ps w L vs) (hb : Below w.heap.size w w') : Ps w' L vs := ⟨h.1, fun i hi => by
  obtain ⟨A, c, h1, h2, h3⟩ := h.2 i hi
  exact ⟨A, c, h1, h2, h3.since hb⟩⟩
theorem Ps.app {w : World} {L : List (List UInt8)} {vs : List Value} (h : Ps w L vs) {A : Option Addr} {k c : Nat} {l : List UInt8} (hk : l.length = k) (hc : k ≤ c) (hs : Seen w A l) : Ps w (L ++ [l]) (vs ++ [.slice A k c]) := by
  subst hk
  refine ⟨by simp [h.1], fun i hi => ?_⟩
  by_cases h0 : i < L.length
  · obtain ⟨A', c', h1, h2, h3⟩ := h.2 i h0
    have e : (L ++ [l])[i] = L[i] := List.getElem_append_left h0
    rw [e]
    exact ⟨A', c', by rw [List.getElem?_append_left (by rw [h.1]; exact h0)]; exact h1, h2, h3⟩
  · obtain rfl : i = L.length := by simp at hi; omega
    have e : (L ++ [l])[L.length] = l := by simp
    rw [e]
    exact ⟨A, c, by rw [List.getElem?_append_right (by rw [h.1]; exact Nat.le_refl _), h.1]; simp, hc, hs⟩
theorem few_step (L : List (List UInt8)) (i : Nat) (h : i < L.length) : (L.take i).map (·.take 100) ++ [L[i].take 100] = (L.take (i + 1)).map (·.take 100) := by
  rw [List.take_succ_eq_append_getElem h, List.map_append]; rfl
theorem flat_step (L : List (List UInt8)) (i : Nat) (h : i < L.length) : (L.take i).flatten ++ L[i] = (L.take (i + 1)).flatten := by
  rw [List.take_succ_eq_append_getElem h, List.flatten_append]; simp
theorem flat_len (L : List (List UInt8)) (h : ∀ l ∈ L, l.length ≤ 100) : L.flatten.length ≤ 100 * L.length := by
  induction L with
  | nil => simp
  | cons l L ih =>
    have := h l (by simp)
    have := ih (fun m hm => h m (by simp [hm]))
    rw [List.flatten_cons, List.length_append, List.length_cons]; omega

theorem slice_info : (Try.prog.info? 23).map (fun i => (i.zero, i.size, i.bytes)) = some (some (.slice none 0 0), 1, 24) := by kernel_rfl
theorem Grid.cell {w : World} {A : Option Addr} {vs : List Value} (h : Grid w A vs) {i : Nat} {v : Value} (hv : vs[i]? = some v) : ∃ b o, A = some ⟨b, o, none⟩ ∧ b < w.heap.size ∧ w.cell? ⟨b, o + i, none⟩ = some v := by
  obtain ⟨hi, e⟩ := List.getElem?_eq_some_iff.1 hv
  obtain ⟨b, o, h1, h2, h3⟩ := h.at_ hi
  exact ⟨b, o, h1, h2, by rw [h3 i hi, e]⟩

set_option maxRecDepth 100000 in
set_option maxHeartbeats 1000000 in
theorem few_ok (A : Option Addr) (n c : Nat) (vs : List Value) (L : List (List UInt8)) (w : World) (hc : n ≤ c) (hl : L.length = n) (hg : Grid w A vs) (hp : Ps w L vs) :
    Calls Try.prog 9 #[.slice A n c] w fun e w' => ∃ A' k c' us, e = .returned (.slice A' k c') ∧ k ≤ c' ∧ (fewL L).length = k ∧ Grid w' A' us ∧ Ps w' (fewL L) us ∧ Below w.heap.size w w' := by
  have hw0 := below_new w (.cells #[] 23)
  have ho0 : (w.alloc (.cells #[] 23)).ownsRow w.heap.size 23 1 (.slice (some ⟨w.heap.size, 0, none⟩) 0 0) 0 [] := World.ownsRow_made w #[] 0 (Nat.le_refl _) (Nat.zero_le _) rfl
  replace hl := Lib.hid hl
  go_enter Try.func9, Try.ntmps9
  go_wp2
  go_loopw [3, 4] (fun v t W => Below w.heap.size w W ∧ ∃ (i : Nat) (us : List Value), t = .int .i64 i ∧ i ≤ n ∧ i ≤ 20 ∧ W.ownsRow w.heap.size 23 1 v i us ∧ Ps w ((L.take i).map (·.take 100)) us) (fun _ t _ => n - (intOf t).toNat)
  case atStart => exact ⟨hw0, 0, [], rfl, Nat.zero_le _, Nat.zero_le _, ho0, rfl, fun i hi => by simp at hi⟩
  case round =>
    clear hw0 ho0
    obtain ⟨hw, i, us, rfl, hi, hi20, ho, hps⟩ := hrel
    by_cases hend : i = n ∨ i = 20
    · have hfin : (L.take i).map (·.take 100) = fewL L := by
        unfold fewL
        rcases hend with rfl | rfl
        · rw [List.take_of_length_le (by rw [hl.out]; exact Nat.le_refl _), List.take_of_length_le (by rw [hl.out]; exact hi20)]
        · rfl
      rw [hfin] at hps
      obtain ⟨A', c', rfl, hc', hg', _⟩ := Grid.own ho
      have hlen := hps.1
      have h1 := ho.1
      rw [Nat.mul_one] at h1
      replace hlen := Lib.hid hlen
      replace h1 := Lib.hid h1
      clear hfin
      have t0 : ¬ ((i : Int) < n ∧ (i : Int) < 20) := by omega
      by_cases hin : i = n
      · subst hin
        have hin' : ¬ ((i : Int) < i) := by omega
        clear hend t0
        go_wp2
        go_ret
        exact ⟨A', i, c', rfl, hc', by rw [← hlen.out]; exact h1.out, us, hg', hps.since hw, hw⟩
      · obtain rfl : i = 20 := by omega
        have hin' : ((20 : Nat) : Int) < n := by omega
        simp only [show ((20 : Nat) : Int) = 20 from rfl] at hin'
        simp only [show ((20 : Nat) : Int) = 20 from rfl]
        clear hend t0 hin hi hi20
        go_wp2
        go_ret
        exact ⟨A', 20, c', us, rfl, hc', by rw [← hlen.out]; exact h1.out, hg', hps.since hw, hw⟩
    · have hlt : i < n := by omega
      have hlt20 : i < 20 := by omega
      obtain ⟨A1, c1, q1, q2, q3⟩ := hp.2 i (by rw [hl.out]; exact hlt)
      obtain ⟨b, o, rfl, hb, hcell⟩ := hg.cell q1
      obtain ⟨k, hk⟩ : ∃ k, (L[i]'(by rw [hl.out]; exact hlt)).length = k := ⟨_, rfl⟩
      rw [hk] at q2 hcell
      obtain ⟨m, hm⟩ : ∃ m, m = min k 100 := ⟨_, rfl⟩
      have em : min (k : Int) 100 = (m : Int) := by omega
      have hcut := slice_h A1 k c1 m (by omega)
      have p1 : ∀ q, (wr.drewN q).cell? ⟨b, o + i, none⟩ = some (.slice A1 k c1) := fun q => (hw.cell hb).trans hcell
      have p2 : wr.drew.cell? ⟨b, o + i, none⟩ = some (.slice A1 k c1) := (hw.cell hb).trans hcell
      have hml : ((L[i]'(by rw [hl.out]; exact hlt)).take 100).length = m := by rw [List.length_take, hk, hm]; omega
      have hps' := hps.app hml (show m ≤ c1 by omega) (q3.take 100)
      rw [few_step] at hps'
      have hgrid : ∀ (j : Nat) (u : Value), [Value.slice A1 m c1][j]? = some u → (wr.drew.alloc (.cells #[.slice A1 m c1] 23)).cell? ((⟨wr.heap.size, 0, none⟩ : Addr).add j) = some u := fun j u hu => by
        have := (Arr.new_at wr.drew [.slice A1 m c1] _ 23 rfl).cell hu
        unfold Addr.add
        split
        · rename_i h0; subst h0; exact this
        · rw [Nat.zero_add]; exact this
      obtain ⟨ii, hii, hz, hs, hby⟩ := info_parts slice_info
      have hw1 := (below_drawn hw 1).alloc (by exact hw.size) (.cells #[.slice A1 m c1] 23)
      have ho1 : (wr.drew.alloc (.cells #[.slice A1 m c1] 23)).ownsRow w.heap.size 23 1 u3 i us := World.ownsRow.alloc (w := wr.drew) ho _
      obtain ⟨v', w', hrun, k2, k3, _, k5⟩ := run_append_own_at (P := Try.prog) (wr.drew.alloc (.cells #[.slice A1 m c1] 23)) w.heap.size 22 22 23 ii _ 1 24 Try.underlying22 hii hz hs hby rfl (by decide) u3 i us ho1 ⟨wr.heap.size, 0, none⟩ 1 1 [.slice A1 m c1] rfl hgrid (by intro u hu; simp at hu; subst hu; rfl) (by simp only [maxLen]; omega) (by omega) hw1.size
      have hw2 := hw1.grown k3 hw1.size fun k e => (ho1.lt k e).1
      clear hm hend hcell q1 hw1 ho1 ho k3 k5 hgrid hps
      go_wp2_with fail
      go_region_law (rw [if_pos (by rfl)]; refine Lib.wp_append_run _ _ _ _ _ rfl _ _ rfl rfl _ _ hrun ?_)
      all_goals
        go_wp2
        go_roundw
        case rel => exact ⟨hw2, i + 1, us ++ [.slice A1 m c1], by go_num, by omega, by omega, k2, hps'⟩
        case measure => simp [intOf]; omega

set_option maxRecDepth 100000 in
set_option maxHeartbeats 1000000 in
theorem joined_ok (A : Option Addr) (n c : Nat) (vs : List Value) (L : List (List UInt8)) (w : World) (hc : n ≤ c) (hl : L.length = n) (hn : n ≤ 20) (hg : Grid w A vs) (hp : Ps w L vs) (h100 : ∀ l ∈ L, l.length ≤ 100) :
    Calls Try.prog 10 #[.slice A n c] w fun e w' => ∃ v, e = .returned v ∧ Own w' w.heap.size v L.flatten ∧ Below w.heap.size w w' := by
  have hw0 := below_new w (.cells #[] 5)
  have ho0 := Own.empty w w.heap.size (Nat.le_refl _)
  have hall : L.take n = L := List.take_of_length_le (by omega)
  replace hl := Lib.hid hl
  replace hall := Lib.hid hall
  go_enter Try.func10, Try.ntmps10
  go_wp2
  go_loopw [3, 4] (fun v t W => Below w.heap.size w W ∧ ∃ i : Nat, t = .int .i64 i ∧ i ≤ n ∧ Own W w.heap.size v (L.take i).flatten) (fun _ t _ => n - (intOf t).toNat)
  case atStart => exact ⟨hw0, 0, rfl, Nat.zero_le _, ho0⟩
  case round =>
    clear hw0 ho0
    obtain ⟨hw, i, rfl, hi, ho⟩ := hrel
    by_cases hin : i = n
    · subst hin
      rw [hall.out] at ho
      go_wp2
      go_ret
      exact ⟨_, rfl, ho, hw⟩
    · have hlt : i < n := by omega
      obtain ⟨A1, c1, q1, q2, q3⟩ := hp.2 i (by rw [hl.out]; exact hlt)
      obtain ⟨b, o, rfl, hb, hcell⟩ := hg.cell q1
      obtain ⟨l, hle⟩ : ∃ l, (L[i]'(by rw [hl.out]; exact hlt)) = l := ⟨_, rfl⟩
      have hstep := flat_step L i (by rw [hl.out]; exact hlt)
      have hlen := flat_len (L.take i) fun l hl => h100 l (List.mem_of_mem_take hl)
      have hl1 := h100 _ (List.getElem_mem (show i < L.length by rw [hl.out]; exact hlt))
      rw [hle] at q2 q3 hcell hstep hl1
      rw [List.length_take] at hlen
      have hcell := (hw.cell (p := ⟨b, o + i, none⟩) hb).trans hcell
      have q3 := q3.since hw
      have hz := hw.size
      obtain ⟨k, hk⟩ : ∃ k, l.length = k := ⟨_, rfl⟩
      rw [hk] at hcell q2 hl1
      generalize (L.take i).flatten = F at ho hstep hlen
      have hFl : F.length + k ≤ 100000 := by omega
      replace hk := Lib.hid hk
      replace hstep := Lib.hid hstep
      replace hle := Lib.hid hle
      clear hlen hin q1
      go_wp2_with (at_builtin; refine wpList_append_own_any _ rfl _ _ rfl w.heap.size _ F rfl ho A1 k c1 rfl l hk.out q3 (by rw [hk.out]; omega) hz ?_)
      intro v' w' ho' hg' hat
      have hw' := ho.grew hw (Nat.le_refl _) hz hg'
      rw [hstep.out] at ho'
      go_wp2
      go_roundw
      case rel => exact ⟨hw', i + 1, by go_num, by omega, ho'⟩
      case measure => simp [intOf]; omega
end Go.Proofs.Ytfgneepilofkeaa.stream
