/-
  THE CONTRACT OF msg's join: what all fields put, one behind the other.
-/
import Derived.Test.YtmibgmcgicphoaaMsgFds
import Derived.Deep.MidRow
namespace Go.Proofs.Ytmibgmcgicphoaa.msg
open Go.RowKit Go.Proofs.Ytmibgmcgicphoaa.octets Go.Proofs.Ytmibgmcgicphoaa.pack
set_option linter.unusedVariables false
set_option linter.unusedSimpArgs false
variable {S : Type} {enc : S → List Value} {good : S → Prop} {g : Nat}

/-- field i of a row: its cells -/
theorem Src3.at_ {base : Nat} {w : World} {k : Option Nat} {A : Option Addr} {ds : List (FD S)} (h : Src3 enc good g base w k A ds) {i : Nat} (hi : i < ds.length) : ∃ b o us, A = some ⟨b, o, none⟩ ∧ b < w.heap.size ∧ us.length = 3 ∧ FieldAt enc good g (fun b => base ≤ b ∧ k ≠ some b) w ds[i] us ∧ ∀ j v, us[j]? = some v → w.cell? ⟨b, o + i * 3 + j, none⟩ = some v := by
  obtain ⟨vs, h1, h2⟩ := h
  obtain ⟨us, g1, g2⟩ := h2.get i hi
  have hl := h2.len
  have hu := g1.len
  obtain ⟨b, o, rfl, hb, hc⟩ := h1.at_ (k := 0) (by omega)
  refine ⟨b, o, us, rfl, hb, hu, g1, fun j v hv => ?_⟩
  have hj : j < 3 := by rw [← hu]; exact (List.getElem?_eq_some_iff.1 hv).1
  have := hc (i * 3 + j) (by omega)
  rw [← Nat.add_assoc] at this
  rw [this, ← List.getElem?_eq_getElem, g2 j hj, hv]
theorem field_row : Try.prog.underlying 66 = some (.struct (Try.prog.fieldsOf 66)) := by kernel_rfl
theorem joinL_take (ds : List (FD S)) (s : S) (i : Nat) (h : i < ds.length) : joinL (ds.take (i + 1)) s = joinL (ds.take i) s ++ ds[i].put s := by
  unfold joinL
  rw [List.take_succ_eq_append_getElem h, List.map_append, List.flatten_append]
  simp
theorem joinL_part (ds : List (FD S)) (s : S) (i : Nat) (h : i ≤ ds.length) : (joinL (ds.take i) s).length ≤ (joinL ds s).length := by
  have e : joinL ds s = joinL (ds.take i) s ++ joinL (ds.drop i) s := by
    unfold joinL
    rw [← List.flatten_append, ← List.map_append, List.take_append_drop]
  rw [e, List.length_append]
  omega
set_option maxRecDepth 100000 in
set_option maxHeartbeats 1000000 in
theorem join_ok (ds : List (FD S)) (s : S) (hs : good s) (base n c : Nat) (k : Option Nat) (A : Option Addr) (w : World) (hn : ds.length = n) (hn8 : n ≤ 1048576) (hlen : (joinL ds s).length ≤ 1048576) (hO : Src3 enc good g base w k A ds) (hA : Arr w g (enc s)) :
    Calls Try.prog 21 #[.slice A n c] w fun e w' => ∃ v, e = .returned v ∧ Own w' w.heap.size v (joinL ds s) ∧ Below w.heap.size w w' := by
  have hat := Lib.hid (fun (i : Nat) (hi : i < ds.length) => hO.at_ hi)
  replace hn := Lib.hid hn
  replace hlen := Lib.hid hlen
  clear hO
  go_enter Try.func21, Try.ntmps21
  go_wp2
  go_loopw [3, 8] (fun v t W => ∃ i : Nat, i ≤ n ∧ t = .int .i64 i ∧ Below w.heap.size w W ∧ Own W w.heap.size v (joinL (ds.take i) s)) (fun _ t _ => n - (intOf t).toNat)
  case atStart => exact ⟨0, Nat.zero_le _, rfl, Below.refl _ _, Own.none_ _ _⟩
  case round =>
    obtain ⟨i, hi, rfl, hw, ho⟩ := hrel
    by_cases hlt : i < n
    · have hids : i < ds.length := by rw [hn.out]; exact hlt
      obtain ⟨b, o, us, rfl, hb, hul, hF, hcell⟩ := hat.out i hids
      have hst := joinL_take ds s i hids
      have hpl := joinL_part ds s (i + 1) hids
      have hl1 : (joinL (ds.take i) s).length + (ds[i].put s).length ≤ 1048576 := by
        have := hlen.out
        rw [hst, List.length_append] at hpl
        omega
      replace hst := Lib.hid hst
      generalize ds[i] = d at hF hl1 hst
      have hrow : wr.rangeAt b (o + i * 3) us := fun j v hv => (hw.cell (p := ⟨b, o + i * 3 + j, none⟩) hb).trans (hcell j v hv)
      have hone := hF.one
      obtain ⟨p, lp, q, lq, rfl, ep, eq, hput, htake⟩ := hF
      have hz := hw.size
      clear hcell htake eq hids hpl
      have hb3 : Below wr.heap.size wr (wr.alloc (.cells #[.int .i64 (d.size : Int), .func (.func p) #[] lp, .func (.func q) #[] lq] 66)) := (Below.refl _ _).alloc (Nat.le_refl _) _
      have hN := Arr.new wr [.int .i64 (d.size : Int), .func (.func p) #[] lp, .func (.func q) #[] lq] 66
      have cN := hN.cell (i := 1) rfl
      have hw3 := hw.trans (hb3.mono hz)
      have hcall := Lib.hid (hput _ s (Keeps.of_below hw3) hs (hA.since hw3))
      go_wp2_with (guard_target =~ wpList _ _ _ (Oper.mk _ (Op.load 66 _) _ _ _ _ :: _) _ _; refine wpList_load_mid rfl _ _ rfl b (o + i * 3) rfl _ _ hrow field_row rfl (by kernel_rfl) ?_)
      refine hcall.out.mono ?_
      rintro e w4 ⟨A4, c4, rfl, hse4, hb4⟩
      obtain ⟨n4, hn4⟩ : ∃ n4, (d.put s).length = n4 := ⟨_, rfl⟩
      rw [hn4]
      replace hn4 := Lib.hid hn4
      have ho4 := (ho.since hb3).since hb4
      have hw4 := hw3.trans (hb4.mono hw3.size)
      replace hl1 : Unit → (joinL (ds.take i) s).length + (d.put s).length ≤ 140737488355328 := fun _ => by omega
      clear hcall hN cN hb3 hw3 hb4 ho hw hrow hone ep hput
      go_wp2_with (at_builtin; refine wpList_append_own_any _ rfl _ _ rfl w.heap.size _ (joinL (ds.take i) s) rfl ho4 A4 n4 c4 rfl (d.put s) hn4.out hse4 (hl1 ()) hw4.size ?_)
      intro v5 w5 ho5 hg5 hat5
      rw [← hst.out] at ho5
      have hw5 := ho4.grew hw4 (Nat.le_refl _) hw4.size hg5
      clear ho4 hse4 hw4 hg5 hat5
      go_wp2
      go_roundw
      case rel => exact ⟨i + 1, by omega, by go_num, hw5, ho5⟩
      case measure => simp [intOf]; omega
    · obtain rfl : i = n := by omega
      have e : joinL (ds.take i) s = joinL ds s := by rw [List.take_of_length_le (by rw [hn.out]; exact Nat.le_refl _)]
      rw [e] at ho
      go_wp2
      go_ret
      exact ⟨_, rfl, ho, hw⟩
end Go.Proofs.Ytmibgmcgicphoaa.msg
