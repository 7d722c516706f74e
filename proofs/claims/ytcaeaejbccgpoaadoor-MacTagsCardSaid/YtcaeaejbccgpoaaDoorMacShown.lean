/-
  THE HEAD OF THE STATEMENTS OF mac.
-/
import Derived.Test.YtcaeaejbccgpoaaDoorMacRTag
import Derived.BigQuiet
import Derived.Deep.QuietTactic
namespace Go.Proofs.YtcaeaejbccgpoaaDoor.mac
open Go.RowKit Go.Proofs.YtcaeaejbccgpoaaDoor.octets Go.Proofs.YtcaeaejbccgpoaaDoor.sha Go.Proofs.YtcaeaejbccgpoaaDoor.given
set_option linter.unusedVariables false
set_option linter.unusedSimpArgs false

theorem quiet_drew {f : FuncId} {args : Array Value} {w : World} {n : Nat} {v : Value} (h : Calls Tryd.prog f args (w.drewN n) fun e w' => e = .returned v ∧ ∃ q, w' = (w.drewN n).drewN q) :
    Calls Tryd.prog f args (w.drewN n) fun e w'' => e = .returned v ∧ ∃ m, w'' = w.drewN m := h.mono fun _ _ ⟨he, q, hm⟩ => ⟨he, n + q, by rw [hm]; exact World.drewN_drewN ..⟩
def jefeC : Array Value := #[.int .u8 74, .int .u8 101, .int .u8 102, .int .u8 101]
def wantC : Array Value := #[.int .u8 119, .int .u8 104, .int .u8 97, .int .u8 116, .int .u8 32, .int .u8 100, .int .u8 111, .int .u8 32, .int .u8 121, .int .u8 97, .int .u8 32, .int .u8 119, .int .u8 97, .int .u8 110, .int .u8 116, .int .u8 32, .int .u8 102, .int .u8 111, .int .u8 114, .int .u8 32, .int .u8 110, .int .u8 111, .int .u8 116, .int .u8 104, .int .u8 105, .int .u8 110, .int .u8 103, .int .u8 63]
set_option maxRecDepth 100000 in
set_option maxHeartbeats 1000000 in
theorem shown_any (w : World) (hK : Table w) : Calls Tryd.prog 7 #[] w fun e w' => e = .returned (.bool true) ∧ Below w.heap.size w w' := by
  have s1 := (seen_lit w jefe jefeC (4, 5) rfl).alloc (.cells wantC 5 (28, 29))
  have s2 := seen_lit (w.alloc (.cells jefeC 5 (4, 5))) want wantC (28, 29) rfl
  rw [World.size_alloc] at s2
  have hw0 : Below w.heap.size w ((w.alloc (.cells jefeC 5 (4, 5))).alloc (.cells wantC 5 (28, 29))) := ((Below.refl _ _).alloc (Nat.le_refl _) _).alloc (by simp) _
  have hK0 := hK.since hw0
  have kc := fun (w : World) (C : Array Value) (n c : Nat) => Lib.run_convert_bytes_const (P := Tryd.prog) w 22 5 C n c Tryd.underlying22 Tryd.underlying5
  have kc2 : ∀ (w : World) (o : Obj) (C : Array Value) (n c : Nat), (convert 22 22 (.slice (some ⟨w.heap.size + 1, 0, none⟩) n c)).run Tryd.prog ((w.alloc o).alloc (.cells C 5)) = .ok (.slice (some ⟨w.heap.size + 1, 0, none⟩) n c) ((w.alloc o).alloc (.cells C 5 (C.size, C.size + 1))) := fun w o C n c => by
    have := kc (w.alloc o) C n c
    rw [World.size_alloc] at this
    exact this
  go_enter Tryd.func7, Tryd.ntmps7
  go_wp2_with fail
  refine (of_ok (some ⟨w.heap.size, 0, none⟩) (some ⟨w.heap.size + 1, 0, none⟩) 4 4 28 28 jefe want _ rfl rfl (by decide) (by decide) s1 s2 hK0).mono ?_
  rintro e w1 ⟨rfl, hw1⟩
  have hw1' := hw0.trans (hw1.mono hw0.size)
  have hz1 := hw1'.size
  have hml := Lib.hid (macB_len jefe want)
  have h4 : Unit → (macB jefe want).take 4 = [91, 220, 193, 70] := fun _ => mac_jefe
  clear s1 s2 hw0 hK0 hw1 hK kc kc2
  generalize macB jefe want = M at hml h4 ⊢
  have hF0 := Arr.new w1 z32 25
  go_wp2_with (guard_target =~ wpList _ _ _ (Oper.mk _ (Op.store 25 _ _) _ _ _ _ :: _) _ _; refine wpList_store_arr (cs' := vals M) 32 rfl rfl rfl rfl hF0 (by kernel_rfl) rfl (by rw [vals_len, hml.out]) (vals_one _) ?_)
  intro w2 hM2 ho2 hb2 hs2
  have hw2 := (hw1'.alloc hz1 (.cells z32.toArray 25)).trans (hb2.mono hz1)
  have hcut := cut32 w1.heap.size
  clear hF0 hw1' ho2 hb2 hs2
  generalize w1.heap.size = g at hM2 hcut hz1 ⊢
  obtain ⟨a0, a1, a2, a3⟩ := four_cells hM2 (h4 ())
  have e1 : ((91 : UInt8).toNat : Int) = 91 ∧ ((220 : UInt8).toNat : Int) = 220 ∧ ((193 : UInt8).toNat : Int) = 193 ∧ ((70 : UInt8).toNat : Int) = 70 := by decide
  rw [e1.1] at a0
  rw [e1.2.1] at a1
  rw [e1.2.2.1] at a2
  rw [e1.2.2.2] at a3
  have b0 : ∀ n, (w2.drewN n).cell? ⟨g, 0, none⟩ = some (.int .u8 91) := fun n => a0
  have b1 : ∀ n, (w2.drewN n).cell? ⟨g, 1, none⟩ = some (.int .u8 220) := fun n => a1
  have b2 : ∀ n, (w2.drewN n).cell? ⟨g, 2, none⟩ = some (.int .u8 193) := fun n => a2
  have b3 : ∀ n, (w2.drewN n).cell? ⟨g, 3, none⟩ = some (.int .u8 70) := fun n => a3
  clear a0 a1 a2 a3 e1
  go_wp2_with fail
  go_quiet ((go_at_call 14; exact quiet_drew (same_ok (some ⟨g, 0, none⟩) (some ⟨g, 0, none⟩) 32 32 32 32 M M true _ hml.out hml.out (by decide) (Arr.seen (hM2.drewN _)) (Arr.seen (hM2.drewN _)) (decide_eq_true rfl))))
  go_wp2
  go_ret
  exact ⟨rfl, below_drawn hw2 _⟩
end Go.Proofs.YtcaeaejbccgpoaaDoor.mac
