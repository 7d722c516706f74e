/-
  THE HEAD OF THE STATEMENTS OF crc, and what they cut of what they are handed.
-/
import Derived.Test.YtlepghjfbcbcpaaCrc
import Derived.Test.YtlepghjfbcbcpaaArgs
import Derived.Test.YtlepghjfbcbcpaaBytes
import Derived.Below
import Derived.WalkLawsBesides
import Derived.Lib.SlBytesConst
namespace Go.Proofs.Ytlepghjfbcbcpaa.crc
open Go.RowKit Go.Proofs.Ytlepghjfbcbcpaa.octets Go.Proofs.Ytlepghjfbcbcpaa.given

theorem u16_came {n : Int} (h : (Lit.int .u16 n).wf = true) : ∃ s : Nat, n = s ∧ s < 65536 := by
  have h' : 0 ≤ n ∧ n ≤ 65535 := by simpa [Lit.wf, IntKind.min, IntKind.max, IntKind.signed, IntKind.bits] using h
  exact ⟨n.toNat, by omega, by omega⟩
theorem u8_came {n : Int} (h : (Lit.int .u8 n).wf = true) : ∃ s : Nat, n = s ∧ s < 256 := by
  have h' : 0 ≤ n ∧ n ≤ 255 := by simpa [Lit.wf, IntKind.min, IntKind.max, IntKind.signed, IntKind.bits] using h
  exact ⟨n.toNat, by omega, by omega⟩
/-- what a slice of bytes that came in reads as -/
theorem seen_nums {w : World} {a : Option Addr} {len cap : Nat} {zs : List Int} (h : Nums .u8 w a len cap zs) : ∃ l : List UInt8, l.length = len ∧ Seen w a l ∧ len ≤ cap := by
  rcases h with ⟨rfl, rfl, rfl, rfl⟩ | ⟨x, rfl, hl, hm, hz, hc, hw⟩
  · exact ⟨[], rfl, Seen.none_ _ _, Nat.le_refl _⟩
  · refine ⟨(zs.take len).map fun n => UInt8.ofNat n.toNat, by simp; omega, ?_, hl⟩
    intro hne
    have hpos : 0 < zs.length := by
      rcases zs with _ | ⟨z, zs⟩
      · simp at hne
      · simp
    have h0 := hc 0 hpos
    obtain ⟨b, o, sp⟩ := x
    have hsp : sp = none ∧ b < w.heap.size := by
      rw [show (Addr.mk b o sp).add 0 = Addr.mk b o sp by simp [Addr.add]] at h0
      unfold World.cell? at h0
      split at h0
      · rename_i hb
        refine ⟨?_, (Array.getElem?_eq_some_iff.1 hb).1⟩
        cases sp
        · rfl
        · simp at h0
      · cases h0
    obtain ⟨rfl, hb⟩ := hsp
    refine ⟨b, o, rfl, hb, fun i hi => ?_⟩
    have hi' : i < len ∧ i < zs.length := by simp at hi; omega
    have hci := hc i hi'.2
    have e : (Addr.mk b o none).add i = ⟨b, o + i, none⟩ := by unfold Addr.add; split <;> simp_all
    rw [e] at hci
    rw [hci]
    have hwf := hw zs[i] (List.getElem_mem _)
    have hb2 : 0 ≤ zs[i] ∧ zs[i] ≤ 255 := by simpa [Lit.wf, IntKind.min, IntKind.max, IntKind.signed, IntKind.bits] using hwf
    simp only [List.getElem_map, List.getElem_take, List.getD, List.getElem?_eq_getElem hi'.2, Option.getD_some]
    congr 2
    rw [UInt8.toNat_ofNat']; omega
/-- 'b[:m]' -/
theorem slice_h (A : Option Addr) (n cap m : Nat) (hm : m ≤ cap) (W : World) : (Instr.slice 22 (.slice A n cap) none (some (.int .i64 m)) none).run Try.prog W = .ok (.slice A m cap) W := by
  have he : (Try.prog).elem 22 = 5 := by simp [Program.elem, Try.underlying22]
  have ht : (Try.prog).underlying 22 = some (.slice ((Try.prog).elem 22)) := by rw [he]; exact Try.underlying22
  rw [run_slice_h W _ _ _ _ ht .i64 m (by omega) (by omega), he, size_u8]
  have e : A.map (·.add 0) = A := by
    cases A
    · rfl
    · simp [Addr.add]
  simp [Result.andThen, sliced]
  intro _
  simp [Addr.add]

set_option maxHeartbeats 400000 in
theorem few_ok (A : Option Addr) (n cap m : Nat) (w : World) (hc : n ≤ cap) (hm : m = min n 300) :
    Calls Try.prog 10 #[.slice A n cap] w fun e w' => e = .returned (.slice A m cap) ∧ w = w' := by
  have hs := slice_h A n cap m (by omega)
  have em : min (n : Int) 300 = (m : Int) := by omega
  clear hm
  go_enter Try.func10, Try.ntmps10
  go_wp2
  go_ret
  exact ⟨rfl, rfl⟩

/-- the document's example -/
def digits : List UInt8 := [49, 50, 51, 52, 53, 54, 55, 56, 57]
theorem seen_digits (w : World) : Seen (w.alloc (.cells #[.int .u8 49, .int .u8 50, .int .u8 51, .int .u8 52, .int .u8 53, .int .u8 54, .int .u8 55, .int .u8 56, .int .u8 57] 5 (9, 10))) (some ⟨w.heap.size, 0, none⟩) digits := by
  intro _
  refine ⟨w.heap.size, 0, rfl, by simp, fun i hi => ?_⟩
  have hb : (w.alloc (.cells #[.int .u8 49, .int .u8 50, .int .u8 51, .int .u8 52, .int .u8 53, .int .u8 54, .int .u8 55, .int .u8 56, .int .u8 57] 5 (9, 10))).heap[w.heap.size]? = some (.cells #[.int .u8 49, .int .u8 50, .int .u8 51, .int .u8 52, .int .u8 53, .int .u8 54, .int .u8 55, .int .u8 56, .int .u8 57] 5 (9, 10)) := by
    show (w.heap.push _)[w.heap.size]? = _
    simp
  unfold World.cell?
  simp only [hb]
  have h9 : i < 9 := hi
  match i, h9 with
  | 0, _ => rfl
  | 1, _ => rfl
  | 2, _ => rfl
  | 3, _ => rfl
  | 4, _ => rfl
  | 5, _ => rfl
  | 6, _ => rfl
  | 7, _ => rfl
  | 8, _ => rfl
set_option maxHeartbeats 400000 in
theorem shown_any (w : World) : Calls Try.prog 9 #[] w fun e w' => e = .returned (.bool true) ∧ Below w.heap.size w w' := by
  have kc := fun (w : World) (C : Array Value) (n c : Nat) => Lib.run_convert_bytes_const (P := Try.prog) w 22 5 C n c Try.underlying22 Try.underlying5
  go_enter Try.func9, Try.ntmps9
  go_wp2_with fail
  (with_reducible refine (sum_at _ 0 0 [] 65535 _ rfl (by decide) (Seen.none_ _ _) rfl).mono ?_)
  rintro e w1 ⟨rfl, rfl⟩
  go_wp2_with fail
  (with_reducible refine (sum_at _ 9 9 digits 10673 _ rfl (by decide) (seen_digits _) (by decide +kernel)).mono ?_)
  rintro e w1 ⟨rfl, rfl⟩
  go_wp2
  go_ret
  exact ⟨rfl, (Below.refl _ _).alloc (Nat.le_refl _) _⟩
end Go.Proofs.Ytlepghjfbcbcpaa.crc
