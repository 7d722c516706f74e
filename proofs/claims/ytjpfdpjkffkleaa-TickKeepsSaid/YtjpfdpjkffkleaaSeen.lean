/-
  SLICES AND ARRAYS OF BYTES AND NUMBERS THAT CAME IN: what they read as. No function of the program.
-/
import Derived.Test.YtjpfdpjkffkleaaBytes
import Derived.Test.YtjpfdpjkffkleaaArgs
import Derived.Below
namespace Go.Proofs.Ytjpfdpjkffkleaa.octets
open Go.RowKit Go.Proofs.Ytjpfdpjkffkleaa.given
/-- what a slice of bytes that came in reads as -/
theorem seen_nums {w : World} {a : Option Addr} {len cap : Nat} {zs : List Int} (h : Nums .u8 w a len cap zs) : ∃ l : List UInt8, l.length = len ∧ Seen w a l ∧ len ≤ cap := by
  rcases h with ⟨rfl, rfl, rfl, rfl⟩ | ⟨x, rfl, hl, hm, hz, hc, hw⟩
  · exact ⟨[], rfl, Seen.none_ _ _, Nat.le_refl _⟩
  · refine ⟨(zs.take len).map fun n => UInt8.ofNat n.toNat, by simp; omega, ?_, hl⟩
    intro hne
    have hpos : 0 < zs.length := by
      rcases zs with _ | ⟨z, zs⟩
      · simp at hne
      · simp
    have h0 := hc 0 hpos
    obtain ⟨b, o, sp⟩ := x
    have hsp : sp = none ∧ b < w.heap.size := by
      rw [show (Addr.mk b o sp).add 0 = Addr.mk b o sp by simp [Addr.add]] at h0
      unfold World.cell? at h0
      split at h0
      · rename_i hb
        refine ⟨?_, (Array.getElem?_eq_some_iff.1 hb).1⟩
        cases sp
        · rfl
        · simp at h0
      · cases h0
    obtain ⟨rfl, hb⟩ := hsp
    refine ⟨b, o, rfl, hb, fun i hi => ?_⟩
    have hi' : i < len ∧ i < zs.length := by simp at hi; omega
    have hci := hc i hi'.2
    have e : (Addr.mk b o none).add i = ⟨b, o + i, none⟩ := by unfold Addr.add; split <;> simp_all
    rw [e] at hci
    rw [hci]
    have hwf := hw zs[i] (List.getElem_mem _)
    have hb2 : 0 ≤ zs[i] ∧ zs[i] ≤ 255 := by simpa [Lit.wf, IntKind.min, IntKind.max, IntKind.signed, IntKind.bits] using hwf
    simp only [List.getElem_map, List.getElem_take, List.getD, List.getElem?_eq_getElem hi'.2, Option.getD_some]
    congr 2
    rw [UInt8.toNat_ofNat']; omega
/-- the whole numbers of an array that came in, whatever their kind -/
theorem ints_came {P : Program} {w : World} {r : Reach} {base : Nat} {t e : TypeId} {v : Value} (n : Nat) (k : IntKind) (ht : P.underlying t = some (.array n e)) (he : P.underlying e = some (.int k)) (hc : P.cellsOf t = n)
    (hts : P.cellTypes P.depth t = some (List.replicate n e)) (h : Value.okWide P w r base t v) : ∃ zs : List Int, v = .agg (zs.map (Value.int k)).toArray ∧ zs.length = n ∧ ∀ z ∈ zs, (Lit.int k z).wf = true := by
  obtain ⟨cs, rfl, hn, hk⟩ := agg_cells (ts := List.replicate n e) (.inl ⟨n, e, ht⟩) (by rw [hc, List.length_replicate]) hts h
  rw [List.length_replicate] at hn
  have hx : ∀ i (hi : i < cs.toList.length), ∃ z, cs.toList[i] = .int k z ∧ (Lit.int k z).wf = true := fun i hi => by
    have hi' : i < cs.size := by simpa using hi
    obtain ⟨e', he', hok⟩ := hk i cs[i] (Array.getElem?_eq_getElem hi')
    rw [List.getElem?_replicate, if_pos (by omega)] at he'
    obtain rfl := Option.some.inj he'
    obtain ⟨z, hz, hw⟩ := int_of_cell he hok
    exact ⟨z, by simpa using hz, hw⟩
  have all : ∀ l : List Value, (∀ i (hi : i < l.length), ∃ z, l[i] = .int k z ∧ (Lit.int k z).wf = true) → ∃ zs : List Int, l = zs.map (Value.int k) ∧ ∀ z ∈ zs, (Lit.int k z).wf = true := by
    intro l
    induction l with
    | nil => intro _; exact ⟨[], rfl, by simp⟩
    | cons u l ih =>
      intro hl
      obtain ⟨z, hz, hw⟩ := hl 0 (by simp)
      obtain ⟨zs, hzs, hws⟩ := ih fun i hi => hl (i + 1) (Nat.succ_lt_succ hi)
      refine ⟨z :: zs, ?_, ?_⟩
      · simp at hz; rw [hz, hzs]; rfl
      · intro y hy
        rcases List.mem_cons.1 hy with rfl | hy
        · exact hw
        · exact hws y hy
  obtain ⟨zs, hzs, hws⟩ := all cs.toList hx
  refine ⟨zs, ?_, ?_, hws⟩
  · rw [← hzs]
  · have := congrArg List.length hzs
    simp at this; omega
end Go.Proofs.Ytjpfdpjkffkleaa.octets
