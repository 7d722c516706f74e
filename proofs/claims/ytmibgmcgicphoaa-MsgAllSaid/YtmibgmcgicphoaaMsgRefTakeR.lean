/-
  CONTRACT OF msg's reference: TakeReply. (Written by program: wip/tools/gen_msg_reftaker.py.)
-/
import Derived.Test.YtmibgmcgicphoaaMsgRefPutS
import Derived.Test.YtmibgmcgicphoaaMsgRefTake
namespace Go.Proofs.Ytmibgmcgicphoaa.msg
open Go.RowKit Go.Proofs.Ytmibgmcgicphoaa.octets Go.Proofs.Ytmibgmcgicphoaa.pack
set_option linter.unusedVariables false
set_option linter.unusedSimpArgs false

theorem got_someR {l : List UInt8} {z : R} (h : takeR l = some z) : codeTR l = 0 ∧ gotR l = z := by unfold codeTR gotR; rw [h]; exact ⟨rfl, rfl⟩
theorem long_noneR {l : List UInt8} (h : 9 < l.length) : takeR l = none := by
  unfold takeR
  rw [if_neg (fun e => by omega)]
theorem since_two {w wa : World} {C0 C1 : Array Value} {t : TypeId} {zs cs : List Value} (hb : Below ((w.alloc (.cells C0 t)).alloc (.cells C1 t)).heap.size ((w.alloc (.cells C0 t)).alloc (.cells C1 t)) wa) (e0 : C0 = zs.toArray) (e1 : C1 = cs.toArray) :
    Arr wa (w.heap.size + 1) cs ∧ Arr wa w.heap.size zs ∧ Below w.heap.size w wa :=
  ⟨(arr_snd w _ cs C1 t e1).since hb, (box_cells w zs C0 t _ e0).since hb, (below2 w _ _).trans (hb.mono (below2 w _ _).size)⟩
theorem new_zr' (w : World) : Arr (w.alloc (.cells #[.int .i64 0, .int .i64 0, .int .i64 0, .int .i64 0, .int .i64 0, .int .i64 0, .int .u8 0, .int .u8 0, .int .u8 0, .int .u8 0, .int .u8 0, .int .u8 0, .int .u8 0, .int .u8 0] 28)) w.heap.size (rv zR) := Arr.new_at w (rv zR) _ _ rfl
theorem zr_eight : zR.nonce.length = 8 := rfl
set_option maxRecDepth 100000 in
set_option maxHeartbeats 8000000 in
theorem refTakeR_long (A : Option Addr) (n c : Nat) (l : List UInt8) (w : World) (hl : l.length = n) (hc : n ≤ c) (hn : n ≤ 1048576) (hs : Seen w A l) (h9 : 9 < n) : Calls Try.prog 18 #[.slice A n c] w fun e w' => e = .returned (.tuple #[.agg (rv (gotR l)).toArray, .int .i64 (codeTR l)]) ∧ Below w.heap.size w w' := by
  have g := gotR_no (long_noneR (l := l) (by omega))
  rw [g.1, g.2]
  have hA := new_zr' w
  have hw := below_new w (.cells #[.int .i64 0, .int .i64 0, .int .i64 0, .int .i64 0, .int .i64 0, .int .i64 0, .int .u8 0, .int .u8 0, .int .u8 0, .int .u8 0, .int .u8 0, .int .u8 0, .int .u8 0, .int .u8 0] 28)
  clear hs hl g
  go_enter Try.func18, Try.ntmps18
  go_wp2
  exact ret_arr_tmp rfl w.heap.size _ _ rfl hA Try.underlying28 rfl (by kernel_rfl) rfl ⟨rfl, hw⟩
set_option maxRecDepth 100000 in
set_option maxHeartbeats 8000000 in
theorem refTakeR_129 (A : Option Addr) (n c : Nat) (l : List UInt8) (w : World) (hl : l.length = n) (hc : n ≤ c) (hn : n ≤ 1048576) (hs : Seen w A l) (h9 : ¬ 9 < n) (hk : atB l 0 = 129) : Calls Try.prog 18 #[.slice A n c] w fun e w' => e = .returned (.tuple #[.agg (rv (gotR l)).toArray, .int .i64 (codeTR l)]) ∧ Below w.heap.size w w' := by
  have hs1 := hs.alloc (.cells #[.int .i64 0, .int .i64 0, .int .i64 0, .int .i64 0, .int .i64 0, .int .i64 0, .int .u8 0, .int .u8 0, .int .u8 0, .int .u8 0, .int .u8 0, .int .u8 0, .int .u8 0, .int .u8 0] 28)
  obtain ⟨b1, hb1⟩ : ∃ b : UInt8, l.getD 1 0 = b := ⟨_, rfl⟩
  have k1 := UInt8.toNat_lt b1
  have ha1 : atB l 1 = (b1.toNat : Int) := by unfold atB; rw [hb1]
  obtain ⟨b2, hb2⟩ : ∃ b : UInt8, l.getD 2 0 = b := ⟨_, rfl⟩
  have k2 := UInt8.toNat_lt b2
  have ha2 : atB l 2 = (b2.toNat : Int) := by unfold atB; rw [hb2]
  obtain ⟨b3, hb3⟩ : ∃ b : UInt8, l.getD 3 0 = b := ⟨_, rfl⟩
  have k3 := UInt8.toNat_lt b3
  have ha3 : atB l 3 = (b3.toNat : Int) := by unfold atB; rw [hb3]
  obtain ⟨b4, hb4⟩ : ∃ b : UInt8, l.getD 4 0 = b := ⟨_, rfl⟩
  have k4 := UInt8.toNat_lt b4
  have ha4 : atB l 4 = (b4.toNat : Int) := by unfold atB; rw [hb4]
  obtain ⟨b5, hb5⟩ : ∃ b : UInt8, l.getD 5 0 = b := ⟨_, rfl⟩
  have k5 := UInt8.toNat_lt b5
  have ha5 : atB l 5 = (b5.toNat : Int) := by unfold atB; rw [hb5]
  obtain ⟨b6, hb6⟩ : ∃ b : UInt8, l.getD 6 0 = b := ⟨_, rfl⟩
  have k6 := UInt8.toNat_lt b6
  have ha6 : atB l 6 = (b6.toNat : Int) := by unfold atB; rw [hb6]
  obtain ⟨b7, hb7⟩ : ∃ b : UInt8, l.getD 7 0 = b := ⟨_, rfl⟩
  have k7 := UInt8.toNat_lt b7
  have ha7 : atB l 7 = (b7.toNat : Int) := by unfold atB; rw [hb7]
  obtain ⟨b8, hb8⟩ : ∃ b : UInt8, l.getD 8 0 = b := ⟨_, rfl⟩
  have k8 := UInt8.toNat_lt b8
  have ha8 : atB l 8 = (b8.toNat : Int) := by unfold atB; rw [hb8]
  have hD : decR l = namedR ⟨129, 0, 0, 0, 0, 0, [b1, b2, b3, b4, b5, b6, b7, b8]⟩ := by
    unfold decR
    rw [if_pos hk, hk, show ((List.range 8).map fun i => l.getD (1 + i) 0) = [l.getD 1 0, l.getD 2 0, l.getD 3 0, l.getD 4 0, l.getD 5 0, l.getD 6 0, l.getD 7 0, l.getD 8 0] from rfl, hb1, hb2, hb3, hb4, hb5, hb6, hb7, hb8]
    rfl
  replace hD := Lib.hid hD
  replace hl := Lib.hid hl
  replace hk := Lib.hid hk
  replace ha1 := Lib.hid ha1
  clear hb1
  replace ha2 := Lib.hid ha2
  clear hb2
  replace ha3 := Lib.hid ha3
  clear hb3
  replace ha4 := Lib.hid ha4
  clear hb4
  replace ha5 := Lib.hid ha5
  clear hb5
  replace ha6 := Lib.hid ha6
  clear hb6
  replace ha7 := Lib.hid ha7
  clear hb7
  replace ha8 := Lib.hid ha8
  clear hb8
  go_enter Try.func18, Try.ntmps18
  try dsimp only [List.append]
  go_wp2_with fail
  refine (at_ok A n c 0 l _ (129) _ hl.out hs1 rfl hk.out).mono ?_
  rintro e w' ⟨rfl, rfl⟩
  go_wp2
  go_loopw [5] (fun t W => ∃ (i : Nat) (N : List UInt8), t = .int .i64 i ∧ Arr W w.heap.size (rv zR) ∧ Arr W (w.heap.size + 1) (rv ⟨129, 0, 0, 0, 0, 0, N⟩) ∧ Below w.heap.size w W ∧ ((i = 0 ∧ N = [0, 0, 0, 0, 0, 0, 0, 0]) ∨ (i = 1 ∧ N = [b1, 0, 0, 0, 0, 0, 0, 0]) ∨ (i = 2 ∧ N = [b1, b2, 0, 0, 0, 0, 0, 0]) ∨ (i = 3 ∧ N = [b1, b2, b3, 0, 0, 0, 0, 0]) ∨ (i = 4 ∧ N = [b1, b2, b3, b4, 0, 0, 0, 0]) ∨ (i = 5 ∧ N = [b1, b2, b3, b4, b5, 0, 0, 0]) ∨ (i = 6 ∧ N = [b1, b2, b3, b4, b5, b6, 0, 0]) ∨ (i = 7 ∧ N = [b1, b2, b3, b4, b5, b6, b7, 0]) ∨ (i = 8 ∧ N = [b1, b2, b3, b4, b5, b6, b7, b8]))) (fun t _ => 8 - (intOf t).toNat)
  case atStart => exact ⟨0, [0, 0, 0, 0, 0, 0, 0, 0], rfl, box_cells w (rv zR) _ 28 _ rfl, arr_snd w _ _ _ 28 rfl, below2 w _ _, .inl ⟨rfl, rfl⟩⟩
  case round =>
    obtain ⟨i, N, rfl, hR, hM, hb, ⟨rfl, rfl⟩ | ⟨rfl, rfl⟩ | ⟨rfl, rfl⟩ | ⟨rfl, rfl⟩ | ⟨rfl, rfl⟩ | ⟨rfl, rfl⟩ | ⟨rfl, rfl⟩ | ⟨rfl, rfl⟩ | ⟨rfl, rfl⟩⟩ := hrel
    · simp only [show ((0 : Nat) : Int) = 0 from rfl]
      have hsw := hs.since hb
      go_wp2_with fail
      refine (at_ok A n c 1 l _ ((b1.toNat : Int)) _ hl.out hsw rfl ha1.out).mono ?_
      rintro e w' ⟨rfl, rfl⟩
      have hw8 : IntKind.u8.wrap (b1.toNat : Int) = (b1.toNat : Int) := by rw [IntKind.wrap_u8]; omega
      have hcl : wr.cell? ⟨w.heap.size + 1, 6, none⟩ = some (.int .u8 0) := hM.cell rfl
      have hfr := hM.frozen 6
      have hM2 : Arr (wr.setCell ⟨w.heap.size + 1, 6, none⟩ (.int .u8 (b1.toNat : Int))) (w.heap.size + 1) (rv ⟨129, 0, 0, 0, 0, 0, [b1, 0, 0, 0, 0, 0, 0, 0]⟩) := hM.set 6 _
      have hR2 := hR.other (a := ⟨w.heap.size + 1, 6, none⟩) (Nat.ne_of_lt (Nat.lt_succ_self _)) (.int .u8 (b1.toNat : Int))
      have hb8 := hb.setCell (p := ⟨w.heap.size + 1, 6, none⟩) (Nat.le_succ _) (.int .u8 (b1.toNat : Int))
      clear hR hM hb hsw
      go_wp2
      go_roundw
      case rel => exact ⟨1, _, rfl, hR2, hM2, hb8, .inr (.inl ⟨rfl, rfl⟩)⟩
      case measure => simp [intOf]
    · simp only [show ((1 : Nat) : Int) = 1 from rfl]
      have hsw := hs.since hb
      go_wp2_with fail
      refine (at_ok A n c 2 l _ ((b2.toNat : Int)) _ hl.out hsw rfl ha2.out).mono ?_
      rintro e w' ⟨rfl, rfl⟩
      have hw8 : IntKind.u8.wrap (b2.toNat : Int) = (b2.toNat : Int) := by rw [IntKind.wrap_u8]; omega
      have hcl : wr.cell? ⟨w.heap.size + 1, 7, none⟩ = some (.int .u8 0) := hM.cell rfl
      have hfr := hM.frozen 7
      have hM2 : Arr (wr.setCell ⟨w.heap.size + 1, 7, none⟩ (.int .u8 (b2.toNat : Int))) (w.heap.size + 1) (rv ⟨129, 0, 0, 0, 0, 0, [b1, b2, 0, 0, 0, 0, 0, 0]⟩) := hM.set 7 _
      have hR2 := hR.other (a := ⟨w.heap.size + 1, 7, none⟩) (Nat.ne_of_lt (Nat.lt_succ_self _)) (.int .u8 (b2.toNat : Int))
      have hb8 := hb.setCell (p := ⟨w.heap.size + 1, 7, none⟩) (Nat.le_succ _) (.int .u8 (b2.toNat : Int))
      clear hR hM hb hsw
      go_wp2
      go_roundw
      case rel => exact ⟨2, _, rfl, hR2, hM2, hb8, .inr (.inr (.inl ⟨rfl, rfl⟩))⟩
      case measure => simp [intOf]
    · simp only [show ((2 : Nat) : Int) = 2 from rfl]
      have hsw := hs.since hb
      go_wp2_with fail
      refine (at_ok A n c 3 l _ ((b3.toNat : Int)) _ hl.out hsw rfl ha3.out).mono ?_
      rintro e w' ⟨rfl, rfl⟩
      have hw8 : IntKind.u8.wrap (b3.toNat : Int) = (b3.toNat : Int) := by rw [IntKind.wrap_u8]; omega
      have hcl : wr.cell? ⟨w.heap.size + 1, 8, none⟩ = some (.int .u8 0) := hM.cell rfl
      have hfr := hM.frozen 8
      have hM2 : Arr (wr.setCell ⟨w.heap.size + 1, 8, none⟩ (.int .u8 (b3.toNat : Int))) (w.heap.size + 1) (rv ⟨129, 0, 0, 0, 0, 0, [b1, b2, b3, 0, 0, 0, 0, 0]⟩) := hM.set 8 _
      have hR2 := hR.other (a := ⟨w.heap.size + 1, 8, none⟩) (Nat.ne_of_lt (Nat.lt_succ_self _)) (.int .u8 (b3.toNat : Int))
      have hb8 := hb.setCell (p := ⟨w.heap.size + 1, 8, none⟩) (Nat.le_succ _) (.int .u8 (b3.toNat : Int))
      clear hR hM hb hsw
      go_wp2
      go_roundw
      case rel => exact ⟨3, _, rfl, hR2, hM2, hb8, .inr (.inr (.inr (.inl ⟨rfl, rfl⟩)))⟩
      case measure => simp [intOf]
    · simp only [show ((3 : Nat) : Int) = 3 from rfl]
      have hsw := hs.since hb
      go_wp2_with fail
      refine (at_ok A n c 4 l _ ((b4.toNat : Int)) _ hl.out hsw rfl ha4.out).mono ?_
      rintro e w' ⟨rfl, rfl⟩
      have hw8 : IntKind.u8.wrap (b4.toNat : Int) = (b4.toNat : Int) := by rw [IntKind.wrap_u8]; omega
      have hcl : wr.cell? ⟨w.heap.size + 1, 9, none⟩ = some (.int .u8 0) := hM.cell rfl
      have hfr := hM.frozen 9
      have hM2 : Arr (wr.setCell ⟨w.heap.size + 1, 9, none⟩ (.int .u8 (b4.toNat : Int))) (w.heap.size + 1) (rv ⟨129, 0, 0, 0, 0, 0, [b1, b2, b3, b4, 0, 0, 0, 0]⟩) := hM.set 9 _
      have hR2 := hR.other (a := ⟨w.heap.size + 1, 9, none⟩) (Nat.ne_of_lt (Nat.lt_succ_self _)) (.int .u8 (b4.toNat : Int))
      have hb8 := hb.setCell (p := ⟨w.heap.size + 1, 9, none⟩) (Nat.le_succ _) (.int .u8 (b4.toNat : Int))
      clear hR hM hb hsw
      go_wp2
      go_roundw
      case rel => exact ⟨4, _, rfl, hR2, hM2, hb8, .inr (.inr (.inr (.inr (.inl ⟨rfl, rfl⟩))))⟩
      case measure => simp [intOf]
    · simp only [show ((4 : Nat) : Int) = 4 from rfl]
      have hsw := hs.since hb
      go_wp2_with fail
      refine (at_ok A n c 5 l _ ((b5.toNat : Int)) _ hl.out hsw rfl ha5.out).mono ?_
      rintro e w' ⟨rfl, rfl⟩
      have hw8 : IntKind.u8.wrap (b5.toNat : Int) = (b5.toNat : Int) := by rw [IntKind.wrap_u8]; omega
      have hcl : wr.cell? ⟨w.heap.size + 1, 10, none⟩ = some (.int .u8 0) := hM.cell rfl
      have hfr := hM.frozen 10
      have hM2 : Arr (wr.setCell ⟨w.heap.size + 1, 10, none⟩ (.int .u8 (b5.toNat : Int))) (w.heap.size + 1) (rv ⟨129, 0, 0, 0, 0, 0, [b1, b2, b3, b4, b5, 0, 0, 0]⟩) := hM.set 10 _
      have hR2 := hR.other (a := ⟨w.heap.size + 1, 10, none⟩) (Nat.ne_of_lt (Nat.lt_succ_self _)) (.int .u8 (b5.toNat : Int))
      have hb8 := hb.setCell (p := ⟨w.heap.size + 1, 10, none⟩) (Nat.le_succ _) (.int .u8 (b5.toNat : Int))
      clear hR hM hb hsw
      go_wp2
      go_roundw
      case rel => exact ⟨5, _, rfl, hR2, hM2, hb8, .inr (.inr (.inr (.inr (.inr (.inl ⟨rfl, rfl⟩)))))⟩
      case measure => simp [intOf]
    · simp only [show ((5 : Nat) : Int) = 5 from rfl]
      have hsw := hs.since hb
      go_wp2_with fail
      refine (at_ok A n c 6 l _ ((b6.toNat : Int)) _ hl.out hsw rfl ha6.out).mono ?_
      rintro e w' ⟨rfl, rfl⟩
      have hw8 : IntKind.u8.wrap (b6.toNat : Int) = (b6.toNat : Int) := by rw [IntKind.wrap_u8]; omega
      have hcl : wr.cell? ⟨w.heap.size + 1, 11, none⟩ = some (.int .u8 0) := hM.cell rfl
      have hfr := hM.frozen 11
      have hM2 : Arr (wr.setCell ⟨w.heap.size + 1, 11, none⟩ (.int .u8 (b6.toNat : Int))) (w.heap.size + 1) (rv ⟨129, 0, 0, 0, 0, 0, [b1, b2, b3, b4, b5, b6, 0, 0]⟩) := hM.set 11 _
      have hR2 := hR.other (a := ⟨w.heap.size + 1, 11, none⟩) (Nat.ne_of_lt (Nat.lt_succ_self _)) (.int .u8 (b6.toNat : Int))
      have hb8 := hb.setCell (p := ⟨w.heap.size + 1, 11, none⟩) (Nat.le_succ _) (.int .u8 (b6.toNat : Int))
      clear hR hM hb hsw
      go_wp2
      go_roundw
      case rel => exact ⟨6, _, rfl, hR2, hM2, hb8, .inr (.inr (.inr (.inr (.inr (.inr (.inl ⟨rfl, rfl⟩))))))⟩
      case measure => simp [intOf]
    · simp only [show ((6 : Nat) : Int) = 6 from rfl]
      have hsw := hs.since hb
      go_wp2_with fail
      refine (at_ok A n c 7 l _ ((b7.toNat : Int)) _ hl.out hsw rfl ha7.out).mono ?_
      rintro e w' ⟨rfl, rfl⟩
      have hw8 : IntKind.u8.wrap (b7.toNat : Int) = (b7.toNat : Int) := by rw [IntKind.wrap_u8]; omega
      have hcl : wr.cell? ⟨w.heap.size + 1, 12, none⟩ = some (.int .u8 0) := hM.cell rfl
      have hfr := hM.frozen 12
      have hM2 : Arr (wr.setCell ⟨w.heap.size + 1, 12, none⟩ (.int .u8 (b7.toNat : Int))) (w.heap.size + 1) (rv ⟨129, 0, 0, 0, 0, 0, [b1, b2, b3, b4, b5, b6, b7, 0]⟩) := hM.set 12 _
      have hR2 := hR.other (a := ⟨w.heap.size + 1, 12, none⟩) (Nat.ne_of_lt (Nat.lt_succ_self _)) (.int .u8 (b7.toNat : Int))
      have hb8 := hb.setCell (p := ⟨w.heap.size + 1, 12, none⟩) (Nat.le_succ _) (.int .u8 (b7.toNat : Int))
      clear hR hM hb hsw
      go_wp2
      go_roundw
      case rel => exact ⟨7, _, rfl, hR2, hM2, hb8, .inr (.inr (.inr (.inr (.inr (.inr (.inr (.inl ⟨rfl, rfl⟩)))))))⟩
      case measure => simp [intOf]
    · simp only [show ((7 : Nat) : Int) = 7 from rfl]
      have hsw := hs.since hb
      go_wp2_with fail
      refine (at_ok A n c 8 l _ ((b8.toNat : Int)) _ hl.out hsw rfl ha8.out).mono ?_
      rintro e w' ⟨rfl, rfl⟩
      have hw8 : IntKind.u8.wrap (b8.toNat : Int) = (b8.toNat : Int) := by rw [IntKind.wrap_u8]; omega
      have hcl : wr.cell? ⟨w.heap.size + 1, 13, none⟩ = some (.int .u8 0) := hM.cell rfl
      have hfr := hM.frozen 13
      have hM2 : Arr (wr.setCell ⟨w.heap.size + 1, 13, none⟩ (.int .u8 (b8.toNat : Int))) (w.heap.size + 1) (rv ⟨129, 0, 0, 0, 0, 0, [b1, b2, b3, b4, b5, b6, b7, b8]⟩) := hM.set 13 _
      have hR2 := hR.other (a := ⟨w.heap.size + 1, 13, none⟩) (Nat.ne_of_lt (Nat.lt_succ_self _)) (.int .u8 (b8.toNat : Int))
      have hb8 := hb.setCell (p := ⟨w.heap.size + 1, 13, none⟩) (Nat.le_succ _) (.int .u8 (b8.toNat : Int))
      clear hR hM hb hsw
      go_wp2
      go_roundw
      case rel => exact ⟨8, _, rfl, hR2, hM2, hb8, .inr (.inr (.inr (.inr (.inr (.inr (.inr (.inr ⟨rfl, rfl⟩)))))))⟩
      case measure => simp [intOf]
    · simp only [show ((8 : Nat) : Int) = 8 from rfl]
      go_wp2_with (guard_target =~ wpList _ _ _ (Oper.mk _ (Op.load 28 _) _ _ _ _ :: _) _ _; refine wpList_load_arr 14 rfl rfl rfl hM (by kernel_rfl) rfl ?_)
      refine (replies_ok ⟨129, 0, 0, 0, 0, 0, [b1, b2, b3, b4, b5, b6, b7, b8]⟩ rfl _).mono ?_
      rintro e wa ⟨rfl, hb6⟩
      have hR := hR.since hb6
      have hM := hM.since hb6
      have hb := hb.trans (hb6.mono hb.size)
      clear hb6
      rw [← hD.out]
      have hltR := hR.lt
      have h8 := decR_eight l
      have hrl := rv_len (decR l) h8
      replace hrl := Lib.hid hrl
      go_wp2_with (first
        | (guard_target =~ wpList _ _ _ (Oper.mk _ (Op.store 28 _ _) _ _ _ _ :: _) _ _; refine wpList_store_arr (cs' := rv (decR l)) 14 rfl rfl rfl rfl hM (by kernel_rfl) (by simp [rv, vals, zR, z8]) hrl.out (rv_one _) ?_))
      intro wb hM2 ho hbb hsz
      have hR2 := hR.of_block (ho w.heap.size (Nat.ne_of_lt (Nat.lt_succ_self _)))
      have hb2 := hb.trans (hbb.mono (Nat.le_succ _))
      clear hR hM hb ho hbb hsz hltR
      go_wp2_with (guard_target =~ wpList _ _ _ (Oper.mk _ (Op.load 28 _) _ _ _ _ :: _) _ _; refine wpList_load_arr 14 rfl rfl rfl hM2 (by kernel_rfl) hrl.out ?_)
      refine (refPutR_ok (decR l) _ h8).mono ?_
      rintro e wc ⟨v5, rfl, ho5, hb5⟩
      have hM3 := hM2.since hb5
      have hR3 := hR2.since hb5
      have hw3 := hb2.trans (hb5.mono hb2.size)
      clear hM2 hR2 hb2 hb5 hD
      cases hok : okR (decR l) with
      | false =>
        have g := gotR_no (show takeR l = none from by unfold takeR; rw [if_neg (fun e => by rw [hok] at e; exact absurd e.2.1 (by simp))])
        have e5 : codeR (decR l) = 1 ∧ bytesR (decR l) = [] := ⟨if_neg (by simp [hok]), if_neg (by simp [hok])⟩
        rw [e5.2] at ho5
        rw [e5.1]
        obtain ⟨A5, c5, rfl, -⟩ := ho5.seen_at (k := 0) rfl
        replace g := Lib.hid g
        clear ho5 hM3
        go_wp2_with (guard_target =~ wpList _ _ _ (Oper.mk _ (Op.store 28 _ _) _ _ _ _ :: _) _ _; refine wpList_store_arr (cs' := rv zR) 14 rfl rfl rfl rfl hR3 (by kernel_rfl) (rv_len _ zr_eight) (rv_len _ zr_eight) (rv_one _) ?_)
        intro wd hR4 ho hbb hsz
        have hw4 := hw3.trans (hbb.mono (Nat.le_refl _))
        go_wp2
        exact ret_arr_tmp rfl w.heap.size _ _ rfl hR4 Try.underlying28 rfl (by kernel_rfl) rfl ⟨by rw [g.out.1, g.out.2]; rfl, hw4⟩
      | true =>
        rw [(codeR_ok hok).2] at ho5
        rw [(codeR_ok hok).1]
        obtain ⟨k5, hk5⟩ : ∃ k, (replyB (decR l)).length = k := ⟨_, rfl⟩
        obtain ⟨A5, c5, rfl, hs5⟩ := ho5.seen_at hk5
        obtain ⟨s1, hs1⟩ : ∃ s : ByteArray, s = ⟨(replyB (decR l)).toArray⟩ := ⟨_, rfl⟩
        obtain ⟨s2, hs2⟩ : ∃ s : ByteArray, s = ⟨l.toArray⟩ := ⟨_, rfl⟩
        have t1 := hs5.str k5 c5 hk5 s1 hs1
        have t2 := (hs.since hw3).str n c hl.out s2 hs2
        obtain ⟨bN, hbN⟩ : ∃ b, (s1.toList == s2.toList) = b := ⟨_, rfl⟩
        have hbM : (s1.toList != s2.toList) = !bN := by rw [bne, hbN]
        have hcmp : bN = true ↔ replyB (decR l) = l := by
          rw [← hbN, hs1, hs2, ByteArray.toList_eq, ByteArray.toList_eq, beq_iff_eq]
        clear ho5 hs5 hk5 hs1 hs2
        cases bN
        · simp only [Bool.not_false] at hbM
          have g := gotR_no (show takeR l = none from by unfold takeR; rw [if_neg (fun e => by have := hcmp.2 e.2.2; cases this)])
          replace g := Lib.hid g
          clear hcmp hM3
          go_wp2_with (guard_target =~ wpList _ _ _ (Oper.mk _ (Op.store 28 _ _) _ _ _ _ :: _) _ _; refine wpList_store_arr (cs' := rv zR) 14 rfl rfl rfl rfl hR3 (by kernel_rfl) (rv_len _ zr_eight) (rv_len _ zr_eight) (rv_one _) ?_)
          intro wd hR4 ho hbb hsz
          have hw4 := hw3.trans (hbb.mono (Nat.le_refl _))
          go_wp2
          exact ret_arr_tmp rfl w.heap.size _ _ rfl hR4 Try.underlying28 rfl (by kernel_rfl) rfl ⟨by rw [g.out.1, g.out.2]; rfl, hw4⟩
        · simp only [Bool.not_true] at hbM
          have g := got_someR (show takeR l = some (decR l) from by unfold takeR; rw [if_pos ⟨by rw [hl.out]; omega, hok, hcmp.1 rfl⟩])
          replace g := Lib.hid g
          clear hcmp
          go_wp2_with (first
            | (guard_target =~ wpList _ _ _ (Oper.mk _ (Op.load 28 _) _ _ _ _ :: _) _ _; refine wpList_load_arr 14 rfl rfl rfl hM3 (by kernel_rfl) hrl.out ?_)
            | (guard_target =~ wpList _ _ _ (Oper.mk _ (Op.store 28 _ _) _ _ _ _ :: _) _ _; refine wpList_store_arr (cs' := rv (decR l)) 14 rfl rfl rfl rfl hR3 (by kernel_rfl) (rv_len _ zr_eight) hrl.out (rv_one _) ?_))
          intro wd hR4 ho hbb hsz
          have hw4 := hw3.trans (hbb.mono (Nat.le_refl _))
          go_wp2
          exact ret_arr_tmp rfl w.heap.size _ _ rfl hR4 Try.underlying28 rfl (by rw [hrl.out]; kernel_rfl) rfl ⟨by rw [g.out.1, g.out.2]; rfl, hw4⟩
set_option maxRecDepth 100000 in
set_option maxHeartbeats 8000000 in
theorem refTakeR_130 (A : Option Addr) (n c : Nat) (l : List UInt8) (w : World) (hl : l.length = n) (hc : n ≤ c) (hn : n ≤ 1048576) (hs : Seen w A l) (h9 : ¬ 9 < n) (hk : atB l 0 = 130) : Calls Try.prog 18 #[.slice A n c] w fun e w' => e = .returned (.tuple #[.agg (rv (gotR l)).toArray, .int .i64 (codeTR l)]) ∧ Below w.heap.size w w' := by
  have hs1 := hs.alloc (.cells #[.int .i64 0, .int .i64 0, .int .i64 0, .int .i64 0, .int .i64 0, .int .i64 0, .int .u8 0, .int .u8 0, .int .u8 0, .int .u8 0, .int .u8 0, .int .u8 0, .int .u8 0, .int .u8 0] 28)
  obtain ⟨b1, hb1⟩ : ∃ b : UInt8, l.getD 1 0 = b := ⟨_, rfl⟩
  have k1 := UInt8.toNat_lt b1
  have ha1 : atB l 1 = (b1.toNat : Int) := by unfold atB; rw [hb1]
  obtain ⟨b2, hb2⟩ : ∃ b : UInt8, l.getD 2 0 = b := ⟨_, rfl⟩
  have k2 := UInt8.toNat_lt b2
  have ha2 : atB l 2 = (b2.toNat : Int) := by unfold atB; rw [hb2]
  obtain ⟨b3, hb3⟩ : ∃ b : UInt8, l.getD 3 0 = b := ⟨_, rfl⟩
  have k3 := UInt8.toNat_lt b3
  have ha3 : atB l 3 = (b3.toNat : Int) := by unfold atB; rw [hb3]
  obtain ⟨b4, hb4⟩ : ∃ b : UInt8, l.getD 4 0 = b := ⟨_, rfl⟩
  have k4 := UInt8.toNat_lt b4
  have ha4 : atB l 4 = (b4.toNat : Int) := by unfold atB; rw [hb4]
  have hD : decR l = namedR ⟨130, 0, (b1.toNat : Int), (b2.toNat : Int), (256 * (b3.toNat : Int) + (b4.toNat : Int)), 0, [0, 0, 0, 0, 0, 0, 0, 0]⟩ := by
    unfold decR
    rw [hk, ha1, ha2, ha3, ha4]
    rfl
  replace hD := Lib.hid hD
  replace hl := Lib.hid hl
  replace hk := Lib.hid hk
  replace ha1 := Lib.hid ha1
  clear hb1
  replace ha2 := Lib.hid ha2
  clear hb2
  replace ha3 := Lib.hid ha3
  clear hb3
  replace ha4 := Lib.hid ha4
  clear hb4
  go_enter Try.func18, Try.ntmps18
  try dsimp only [List.append]
  go_wp2_with fail
  refine (at_ok A n c 0 l _ (130) _ hl.out hs1 rfl hk.out).mono ?_
  rintro e w' ⟨rfl, rfl⟩
  go_wp2_with fail
  refine (at_ok A n c 1 l _ ((b1.toNat : Int)) _ hl.out (hs1.alloc _) rfl ha1.out).mono ?_
  rintro e w' ⟨rfl, rfl⟩
  go_wp2_with fail
  refine (at_ok A n c 2 l _ ((b2.toNat : Int)) _ hl.out (hs1.alloc _) rfl ha2.out).mono ?_
  rintro e w' ⟨rfl, rfl⟩
  go_wp2_with fail
  refine (at_ok A n c 3 l _ ((b3.toNat : Int)) _ hl.out (hs1.alloc _) rfl ha3.out).mono ?_
  rintro e w' ⟨rfl, rfl⟩
  go_wp2_with fail
  refine (at_ok A n c 4 l _ ((b4.toNat : Int)) _ hl.out (hs1.alloc _) rfl ha4.out).mono ?_
  rintro e w' ⟨rfl, rfl⟩
  go_wp2_with (guard_target =~ wpList _ _ _ (Oper.mk _ (Op.load 28 _) _ _ _ _ :: _) _ _; refine wpList_load_arr 14 rfl rfl rfl (arr_snd w _ (rv ⟨130, 0, (b1.toNat : Int), (b2.toNat : Int), (256 * (b3.toNat : Int) + (b4.toNat : Int)), 0, [0, 0, 0, 0, 0, 0, 0, 0]⟩) _ 28 rfl) (by kernel_rfl) rfl ?_)
  refine (replies_ok ⟨130, 0, (b1.toNat : Int), (b2.toNat : Int), (256 * (b3.toNat : Int) + (b4.toNat : Int)), 0, [0, 0, 0, 0, 0, 0, 0, 0]⟩ rfl _).mono ?_
  rintro e wa ⟨rfl, hb6⟩
  obtain ⟨hM, hR, hb⟩ := since_two (zs := rv zR) (cs := rv ⟨130, 0, (b1.toNat : Int), (b2.toNat : Int), (256 * (b3.toNat : Int) + (b4.toNat : Int)), 0, [0, 0, 0, 0, 0, 0, 0, 0]⟩) hb6 rfl rfl
  clear hb6
  rw [← hD.out]
  have hltR := hR.lt
  have h8 := decR_eight l
  have hrl := rv_len (decR l) h8
  replace hrl := Lib.hid hrl
  go_wp2_with (first
    | (guard_target =~ wpList _ _ _ (Oper.mk _ (Op.store 28 _ _) _ _ _ _ :: _) _ _; refine wpList_store_arr (cs' := rv (decR l)) 14 rfl rfl rfl rfl hM (by kernel_rfl) (by simp [rv, vals, zR, z8]) hrl.out (rv_one _) ?_))
  intro wb hM2 ho hbb hsz
  have hR2 := hR.of_block (ho w.heap.size (Nat.ne_of_lt (Nat.lt_succ_self _)))
  have hb2 := hb.trans (hbb.mono (Nat.le_succ _))
  clear hR hM hb ho hbb hsz hltR
  go_wp2_with (guard_target =~ wpList _ _ _ (Oper.mk _ (Op.load 28 _) _ _ _ _ :: _) _ _; refine wpList_load_arr 14 rfl rfl rfl hM2 (by kernel_rfl) hrl.out ?_)
  refine (refPutR_ok (decR l) _ h8).mono ?_
  rintro e wc ⟨v5, rfl, ho5, hb5⟩
  have hM3 := hM2.since hb5
  have hR3 := hR2.since hb5
  have hw3 := hb2.trans (hb5.mono hb2.size)
  clear hM2 hR2 hb2 hb5 hD
  cases hok : okR (decR l) with
  | false =>
    have g := gotR_no (show takeR l = none from by unfold takeR; rw [if_neg (fun e => by rw [hok] at e; exact absurd e.2.1 (by simp))])
    have e5 : codeR (decR l) = 1 ∧ bytesR (decR l) = [] := ⟨if_neg (by simp [hok]), if_neg (by simp [hok])⟩
    rw [e5.2] at ho5
    rw [e5.1]
    obtain ⟨A5, c5, rfl, -⟩ := ho5.seen_at (k := 0) rfl
    replace g := Lib.hid g
    clear ho5 hM3
    go_wp2_with (guard_target =~ wpList _ _ _ (Oper.mk _ (Op.store 28 _ _) _ _ _ _ :: _) _ _; refine wpList_store_arr (cs' := rv zR) 14 rfl rfl rfl rfl hR3 (by kernel_rfl) (rv_len _ zr_eight) (rv_len _ zr_eight) (rv_one _) ?_)
    intro wd hR4 ho hbb hsz
    have hw4 := hw3.trans (hbb.mono (Nat.le_refl _))
    go_wp2
    exact ret_arr_tmp rfl w.heap.size _ _ rfl hR4 Try.underlying28 rfl (by kernel_rfl) rfl ⟨by rw [g.out.1, g.out.2]; rfl, hw4⟩
  | true =>
    rw [(codeR_ok hok).2] at ho5
    rw [(codeR_ok hok).1]
    obtain ⟨k5, hk5⟩ : ∃ k, (replyB (decR l)).length = k := ⟨_, rfl⟩
    obtain ⟨A5, c5, rfl, hs5⟩ := ho5.seen_at hk5
    obtain ⟨s1, hs1⟩ : ∃ s : ByteArray, s = ⟨(replyB (decR l)).toArray⟩ := ⟨_, rfl⟩
    obtain ⟨s2, hs2⟩ : ∃ s : ByteArray, s = ⟨l.toArray⟩ := ⟨_, rfl⟩
    have t1 := hs5.str k5 c5 hk5 s1 hs1
    have t2 := (hs.since hw3).str n c hl.out s2 hs2
    obtain ⟨bN, hbN⟩ : ∃ b, (s1.toList == s2.toList) = b := ⟨_, rfl⟩
    have hbM : (s1.toList != s2.toList) = !bN := by rw [bne, hbN]
    have hcmp : bN = true ↔ replyB (decR l) = l := by
      rw [← hbN, hs1, hs2, ByteArray.toList_eq, ByteArray.toList_eq, beq_iff_eq]
    clear ho5 hs5 hk5 hs1 hs2
    cases bN
    · simp only [Bool.not_false] at hbM
      have g := gotR_no (show takeR l = none from by unfold takeR; rw [if_neg (fun e => by have := hcmp.2 e.2.2; cases this)])
      replace g := Lib.hid g
      clear hcmp hM3
      go_wp2_with (guard_target =~ wpList _ _ _ (Oper.mk _ (Op.store 28 _ _) _ _ _ _ :: _) _ _; refine wpList_store_arr (cs' := rv zR) 14 rfl rfl rfl rfl hR3 (by kernel_rfl) (rv_len _ zr_eight) (rv_len _ zr_eight) (rv_one _) ?_)
      intro wd hR4 ho hbb hsz
      have hw4 := hw3.trans (hbb.mono (Nat.le_refl _))
      go_wp2
      exact ret_arr_tmp rfl w.heap.size _ _ rfl hR4 Try.underlying28 rfl (by kernel_rfl) rfl ⟨by rw [g.out.1, g.out.2]; rfl, hw4⟩
    · simp only [Bool.not_true] at hbM
      have g := got_someR (show takeR l = some (decR l) from by unfold takeR; rw [if_pos ⟨by rw [hl.out]; omega, hok, hcmp.1 rfl⟩])
      replace g := Lib.hid g
      clear hcmp
      go_wp2_with (first
        | (guard_target =~ wpList _ _ _ (Oper.mk _ (Op.load 28 _) _ _ _ _ :: _) _ _; refine wpList_load_arr 14 rfl rfl rfl hM3 (by kernel_rfl) hrl.out ?_)
        | (guard_target =~ wpList _ _ _ (Oper.mk _ (Op.store 28 _ _) _ _ _ _ :: _) _ _; refine wpList_store_arr (cs' := rv (decR l)) 14 rfl rfl rfl rfl hR3 (by kernel_rfl) (rv_len _ zr_eight) hrl.out (rv_one _) ?_))
      intro wd hR4 ho hbb hsz
      have hw4 := hw3.trans (hbb.mono (Nat.le_refl _))
      go_wp2
      exact ret_arr_tmp rfl w.heap.size _ _ rfl hR4 Try.underlying28 rfl (by rw [hrl.out]; kernel_rfl) rfl ⟨by rw [g.out.1, g.out.2]; rfl, hw4⟩
set_option maxRecDepth 100000 in
set_option maxHeartbeats 8000000 in
theorem refTakeR_131 (A : Option Addr) (n c : Nat) (l : List UInt8) (w : World) (hl : l.length = n) (hc : n ≤ c) (hn : n ≤ 1048576) (hs : Seen w A l) (h9 : ¬ 9 < n) (hk : atB l 0 = 131) : Calls Try.prog 18 #[.slice A n c] w fun e w' => e = .returned (.tuple #[.agg (rv (gotR l)).toArray, .int .i64 (codeTR l)]) ∧ Below w.heap.size w w' := by
  have hs1 := hs.alloc (.cells #[.int .i64 0, .int .i64 0, .int .i64 0, .int .i64 0, .int .i64 0, .int .i64 0, .int .u8 0, .int .u8 0, .int .u8 0, .int .u8 0, .int .u8 0, .int .u8 0, .int .u8 0, .int .u8 0] 28)
  obtain ⟨b1, hb1⟩ : ∃ b : UInt8, l.getD 1 0 = b := ⟨_, rfl⟩
  have k1 := UInt8.toNat_lt b1
  have ha1 : atB l 1 = (b1.toNat : Int) := by unfold atB; rw [hb1]
  obtain ⟨b2, hb2⟩ : ∃ b : UInt8, l.getD 2 0 = b := ⟨_, rfl⟩
  have k2 := UInt8.toNat_lt b2
  have ha2 : atB l 2 = (b2.toNat : Int) := by unfold atB; rw [hb2]
  obtain ⟨b3, hb3⟩ : ∃ b : UInt8, l.getD 3 0 = b := ⟨_, rfl⟩
  have k3 := UInt8.toNat_lt b3
  have ha3 : atB l 3 = (b3.toNat : Int) := by unfold atB; rw [hb3]
  obtain ⟨b4, hb4⟩ : ∃ b : UInt8, l.getD 4 0 = b := ⟨_, rfl⟩
  have k4 := UInt8.toNat_lt b4
  have ha4 : atB l 4 = (b4.toNat : Int) := by unfold atB; rw [hb4]
  obtain ⟨b5, hb5⟩ : ∃ b : UInt8, l.getD 5 0 = b := ⟨_, rfl⟩
  have k5 := UInt8.toNat_lt b5
  have ha5 : atB l 5 = (b5.toNat : Int) := by unfold atB; rw [hb5]
  have hD : decR l = namedR ⟨131, (16777216 * (b1.toNat : Int) + 65536 * (b2.toNat : Int) + 256 * (b3.toNat : Int) + (b4.toNat : Int)), 0, 0, 0, (b5.toNat : Int), [0, 0, 0, 0, 0, 0, 0, 0]⟩ := by
    unfold decR
    rw [hk, ha1, ha2, ha3, ha4]
    rfl
  replace hD := Lib.hid hD
  replace hl := Lib.hid hl
  replace hk := Lib.hid hk
  replace ha1 := Lib.hid ha1
  clear hb1
  replace ha2 := Lib.hid ha2
  clear hb2
  replace ha3 := Lib.hid ha3
  clear hb3
  replace ha4 := Lib.hid ha4
  clear hb4
  replace ha5 := Lib.hid ha5
  clear hb5
  go_enter Try.func18, Try.ntmps18
  try dsimp only [List.append]
  go_wp2_with fail
  refine (at_ok A n c 0 l _ (131) _ hl.out hs1 rfl hk.out).mono ?_
  rintro e w' ⟨rfl, rfl⟩
  go_wp2_with fail
  refine (at_ok A n c 1 l _ ((b1.toNat : Int)) _ hl.out (hs1.alloc _) rfl ha1.out).mono ?_
  rintro e w' ⟨rfl, rfl⟩
  go_wp2_with fail
  refine (at_ok A n c 2 l _ ((b2.toNat : Int)) _ hl.out (hs1.alloc _) rfl ha2.out).mono ?_
  rintro e w' ⟨rfl, rfl⟩
  go_wp2_with fail
  refine (at_ok A n c 3 l _ ((b3.toNat : Int)) _ hl.out (hs1.alloc _) rfl ha3.out).mono ?_
  rintro e w' ⟨rfl, rfl⟩
  go_wp2_with fail
  refine (at_ok A n c 4 l _ ((b4.toNat : Int)) _ hl.out (hs1.alloc _) rfl ha4.out).mono ?_
  rintro e w' ⟨rfl, rfl⟩
  go_wp2_with fail
  refine (at_ok A n c 5 l _ ((b5.toNat : Int)) _ hl.out (hs1.alloc _) rfl ha5.out).mono ?_
  rintro e w' ⟨rfl, rfl⟩
  go_wp2_with (guard_target =~ wpList _ _ _ (Oper.mk _ (Op.load 28 _) _ _ _ _ :: _) _ _; refine wpList_load_arr 14 rfl rfl rfl (arr_snd w _ (rv ⟨131, (16777216 * (b1.toNat : Int) + 65536 * (b2.toNat : Int) + 256 * (b3.toNat : Int) + (b4.toNat : Int)), 0, 0, 0, (b5.toNat : Int), [0, 0, 0, 0, 0, 0, 0, 0]⟩) _ 28 rfl) (by kernel_rfl) rfl ?_)
  refine (replies_ok ⟨131, (16777216 * (b1.toNat : Int) + 65536 * (b2.toNat : Int) + 256 * (b3.toNat : Int) + (b4.toNat : Int)), 0, 0, 0, (b5.toNat : Int), [0, 0, 0, 0, 0, 0, 0, 0]⟩ rfl _).mono ?_
  rintro e wa ⟨rfl, hb6⟩
  obtain ⟨hM, hR, hb⟩ := since_two (zs := rv zR) (cs := rv ⟨131, (16777216 * (b1.toNat : Int) + 65536 * (b2.toNat : Int) + 256 * (b3.toNat : Int) + (b4.toNat : Int)), 0, 0, 0, (b5.toNat : Int), [0, 0, 0, 0, 0, 0, 0, 0]⟩) hb6 rfl rfl
  clear hb6
  rw [← hD.out]
  have hltR := hR.lt
  have h8 := decR_eight l
  have hrl := rv_len (decR l) h8
  replace hrl := Lib.hid hrl
  go_wp2_with (first
    | (guard_target =~ wpList _ _ _ (Oper.mk _ (Op.store 28 _ _) _ _ _ _ :: _) _ _; refine wpList_store_arr (cs' := rv (decR l)) 14 rfl rfl rfl rfl hM (by kernel_rfl) (by simp [rv, vals, zR, z8]) hrl.out (rv_one _) ?_))
  intro wb hM2 ho hbb hsz
  have hR2 := hR.of_block (ho w.heap.size (Nat.ne_of_lt (Nat.lt_succ_self _)))
  have hb2 := hb.trans (hbb.mono (Nat.le_succ _))
  clear hR hM hb ho hbb hsz hltR
  go_wp2_with (guard_target =~ wpList _ _ _ (Oper.mk _ (Op.load 28 _) _ _ _ _ :: _) _ _; refine wpList_load_arr 14 rfl rfl rfl hM2 (by kernel_rfl) hrl.out ?_)
  refine (refPutR_ok (decR l) _ h8).mono ?_
  rintro e wc ⟨v5, rfl, ho5, hb5⟩
  have hM3 := hM2.since hb5
  have hR3 := hR2.since hb5
  have hw3 := hb2.trans (hb5.mono hb2.size)
  clear hM2 hR2 hb2 hb5 hD
  cases hok : okR (decR l) with
  | false =>
    have g := gotR_no (show takeR l = none from by unfold takeR; rw [if_neg (fun e => by rw [hok] at e; exact absurd e.2.1 (by simp))])
    have e5 : codeR (decR l) = 1 ∧ bytesR (decR l) = [] := ⟨if_neg (by simp [hok]), if_neg (by simp [hok])⟩
    rw [e5.2] at ho5
    rw [e5.1]
    obtain ⟨A5, c5, rfl, -⟩ := ho5.seen_at (k := 0) rfl
    replace g := Lib.hid g
    clear ho5 hM3
    go_wp2_with (guard_target =~ wpList _ _ _ (Oper.mk _ (Op.store 28 _ _) _ _ _ _ :: _) _ _; refine wpList_store_arr (cs' := rv zR) 14 rfl rfl rfl rfl hR3 (by kernel_rfl) (rv_len _ zr_eight) (rv_len _ zr_eight) (rv_one _) ?_)
    intro wd hR4 ho hbb hsz
    have hw4 := hw3.trans (hbb.mono (Nat.le_refl _))
    go_wp2
    exact ret_arr_tmp rfl w.heap.size _ _ rfl hR4 Try.underlying28 rfl (by kernel_rfl) rfl ⟨by rw [g.out.1, g.out.2]; rfl, hw4⟩
  | true =>
    rw [(codeR_ok hok).2] at ho5
    rw [(codeR_ok hok).1]
    obtain ⟨k5, hk5⟩ : ∃ k, (replyB (decR l)).length = k := ⟨_, rfl⟩
    obtain ⟨A5, c5, rfl, hs5⟩ := ho5.seen_at hk5
    obtain ⟨s1, hs1⟩ : ∃ s : ByteArray, s = ⟨(replyB (decR l)).toArray⟩ := ⟨_, rfl⟩
    obtain ⟨s2, hs2⟩ : ∃ s : ByteArray, s = ⟨l.toArray⟩ := ⟨_, rfl⟩
    have t1 := hs5.str k5 c5 hk5 s1 hs1
    have t2 := (hs.since hw3).str n c hl.out s2 hs2
    obtain ⟨bN, hbN⟩ : ∃ b, (s1.toList == s2.toList) = b := ⟨_, rfl⟩
    have hbM : (s1.toList != s2.toList) = !bN := by rw [bne, hbN]
    have hcmp : bN = true ↔ replyB (decR l) = l := by
      rw [← hbN, hs1, hs2, ByteArray.toList_eq, ByteArray.toList_eq, beq_iff_eq]
    clear ho5 hs5 hk5 hs1 hs2
    cases bN
    · simp only [Bool.not_false] at hbM
      have g := gotR_no (show takeR l = none from by unfold takeR; rw [if_neg (fun e => by have := hcmp.2 e.2.2; cases this)])
      replace g := Lib.hid g
      clear hcmp hM3
      go_wp2_with (guard_target =~ wpList _ _ _ (Oper.mk _ (Op.store 28 _ _) _ _ _ _ :: _) _ _; refine wpList_store_arr (cs' := rv zR) 14 rfl rfl rfl rfl hR3 (by kernel_rfl) (rv_len _ zr_eight) (rv_len _ zr_eight) (rv_one _) ?_)
      intro wd hR4 ho hbb hsz
      have hw4 := hw3.trans (hbb.mono (Nat.le_refl _))
      go_wp2
      exact ret_arr_tmp rfl w.heap.size _ _ rfl hR4 Try.underlying28 rfl (by kernel_rfl) rfl ⟨by rw [g.out.1, g.out.2]; rfl, hw4⟩
    · simp only [Bool.not_true] at hbM
      have g := got_someR (show takeR l = some (decR l) from by unfold takeR; rw [if_pos ⟨by rw [hl.out]; omega, hok, hcmp.1 rfl⟩])
      replace g := Lib.hid g
      clear hcmp
      go_wp2_with (first
        | (guard_target =~ wpList _ _ _ (Oper.mk _ (Op.load 28 _) _ _ _ _ :: _) _ _; refine wpList_load_arr 14 rfl rfl rfl hM3 (by kernel_rfl) hrl.out ?_)
        | (guard_target =~ wpList _ _ _ (Oper.mk _ (Op.store 28 _ _) _ _ _ _ :: _) _ _; refine wpList_store_arr (cs' := rv (decR l)) 14 rfl rfl rfl rfl hR3 (by kernel_rfl) (rv_len _ zr_eight) hrl.out (rv_one _) ?_))
      intro wd hR4 ho hbb hsz
      have hw4 := hw3.trans (hbb.mono (Nat.le_refl _))
      go_wp2
      exact ret_arr_tmp rfl w.heap.size _ _ rfl hR4 Try.underlying28 rfl (by rw [hrl.out]; kernel_rfl) rfl ⟨by rw [g.out.1, g.out.2]; rfl, hw4⟩
set_option maxRecDepth 100000 in
set_option maxHeartbeats 8000000 in
theorem refTakeR_132 (A : Option Addr) (n c : Nat) (l : List UInt8) (w : World) (hl : l.length = n) (hc : n ≤ c) (hn : n ≤ 1048576) (hs : Seen w A l) (h9 : ¬ 9 < n) (hk : atB l 0 = 132) : Calls Try.prog 18 #[.slice A n c] w fun e w' => e = .returned (.tuple #[.agg (rv (gotR l)).toArray, .int .i64 (codeTR l)]) ∧ Below w.heap.size w w' := by
  have hs1 := hs.alloc (.cells #[.int .i64 0, .int .i64 0, .int .i64 0, .int .i64 0, .int .i64 0, .int .i64 0, .int .u8 0, .int .u8 0, .int .u8 0, .int .u8 0, .int .u8 0, .int .u8 0, .int .u8 0, .int .u8 0] 28)
  obtain ⟨b1, hb1⟩ : ∃ b : UInt8, l.getD 1 0 = b := ⟨_, rfl⟩
  have k1 := UInt8.toNat_lt b1
  have ha1 : atB l 1 = (b1.toNat : Int) := by unfold atB; rw [hb1]
  obtain ⟨b2, hb2⟩ : ∃ b : UInt8, l.getD 2 0 = b := ⟨_, rfl⟩
  have k2 := UInt8.toNat_lt b2
  have ha2 : atB l 2 = (b2.toNat : Int) := by unfold atB; rw [hb2]
  obtain ⟨b3, hb3⟩ : ∃ b : UInt8, l.getD 3 0 = b := ⟨_, rfl⟩
  have k3 := UInt8.toNat_lt b3
  have ha3 : atB l 3 = (b3.toNat : Int) := by unfold atB; rw [hb3]
  obtain ⟨b4, hb4⟩ : ∃ b : UInt8, l.getD 4 0 = b := ⟨_, rfl⟩
  have k4 := UInt8.toNat_lt b4
  have ha4 : atB l 4 = (b4.toNat : Int) := by unfold atB; rw [hb4]
  obtain ⟨b5, hb5⟩ : ∃ b : UInt8, l.getD 5 0 = b := ⟨_, rfl⟩
  have k5 := UInt8.toNat_lt b5
  have ha5 : atB l 5 = (b5.toNat : Int) := by unfold atB; rw [hb5]
  have hD : decR l = namedR ⟨132, (16777216 * (b1.toNat : Int) + 65536 * (b2.toNat : Int) + 256 * (b3.toNat : Int) + (b4.toNat : Int)), 0, 0, 0, (b5.toNat : Int), [0, 0, 0, 0, 0, 0, 0, 0]⟩ := by
    unfold decR
    rw [hk, ha1, ha2, ha3, ha4, ha5]
    rfl
  replace hD := Lib.hid hD
  replace hl := Lib.hid hl
  replace hk := Lib.hid hk
  replace ha1 := Lib.hid ha1
  clear hb1
  replace ha2 := Lib.hid ha2
  clear hb2
  replace ha3 := Lib.hid ha3
  clear hb3
  replace ha4 := Lib.hid ha4
  clear hb4
  replace ha5 := Lib.hid ha5
  clear hb5
  go_enter Try.func18, Try.ntmps18
  try dsimp only [List.append]
  go_wp2_with fail
  refine (at_ok A n c 0 l _ (132) _ hl.out hs1 rfl hk.out).mono ?_
  rintro e w' ⟨rfl, rfl⟩
  go_wp2_with fail
  refine (at_ok A n c 1 l _ ((b1.toNat : Int)) _ hl.out (hs1.alloc _) rfl ha1.out).mono ?_
  rintro e w' ⟨rfl, rfl⟩
  go_wp2_with fail
  refine (at_ok A n c 2 l _ ((b2.toNat : Int)) _ hl.out (hs1.alloc _) rfl ha2.out).mono ?_
  rintro e w' ⟨rfl, rfl⟩
  go_wp2_with fail
  refine (at_ok A n c 3 l _ ((b3.toNat : Int)) _ hl.out (hs1.alloc _) rfl ha3.out).mono ?_
  rintro e w' ⟨rfl, rfl⟩
  go_wp2_with fail
  refine (at_ok A n c 4 l _ ((b4.toNat : Int)) _ hl.out (hs1.alloc _) rfl ha4.out).mono ?_
  rintro e w' ⟨rfl, rfl⟩
  go_wp2_with fail
  refine (at_ok A n c 5 l _ ((b5.toNat : Int)) _ hl.out (hs1.alloc _) rfl ha5.out).mono ?_
  rintro e w' ⟨rfl, rfl⟩
  go_wp2_with (guard_target =~ wpList _ _ _ (Oper.mk _ (Op.load 28 _) _ _ _ _ :: _) _ _; refine wpList_load_arr 14 rfl rfl rfl (arr_snd w _ (rv ⟨132, (16777216 * (b1.toNat : Int) + 65536 * (b2.toNat : Int) + 256 * (b3.toNat : Int) + (b4.toNat : Int)), 0, 0, 0, (b5.toNat : Int), [0, 0, 0, 0, 0, 0, 0, 0]⟩) _ 28 rfl) (by kernel_rfl) rfl ?_)
  refine (replies_ok ⟨132, (16777216 * (b1.toNat : Int) + 65536 * (b2.toNat : Int) + 256 * (b3.toNat : Int) + (b4.toNat : Int)), 0, 0, 0, (b5.toNat : Int), [0, 0, 0, 0, 0, 0, 0, 0]⟩ rfl _).mono ?_
  rintro e wa ⟨rfl, hb6⟩
  obtain ⟨hM, hR, hb⟩ := since_two (zs := rv zR) (cs := rv ⟨132, (16777216 * (b1.toNat : Int) + 65536 * (b2.toNat : Int) + 256 * (b3.toNat : Int) + (b4.toNat : Int)), 0, 0, 0, (b5.toNat : Int), [0, 0, 0, 0, 0, 0, 0, 0]⟩) hb6 rfl rfl
  clear hb6
  rw [← hD.out]
  have hltR := hR.lt
  have h8 := decR_eight l
  have hrl := rv_len (decR l) h8
  replace hrl := Lib.hid hrl
  go_wp2_with (first
    | (guard_target =~ wpList _ _ _ (Oper.mk _ (Op.store 28 _ _) _ _ _ _ :: _) _ _; refine wpList_store_arr (cs' := rv (decR l)) 14 rfl rfl rfl rfl hM (by kernel_rfl) (by simp [rv, vals, zR, z8]) hrl.out (rv_one _) ?_))
  intro wb hM2 ho hbb hsz
  have hR2 := hR.of_block (ho w.heap.size (Nat.ne_of_lt (Nat.lt_succ_self _)))
  have hb2 := hb.trans (hbb.mono (Nat.le_succ _))
  clear hR hM hb ho hbb hsz hltR
  go_wp2_with (guard_target =~ wpList _ _ _ (Oper.mk _ (Op.load 28 _) _ _ _ _ :: _) _ _; refine wpList_load_arr 14 rfl rfl rfl hM2 (by kernel_rfl) hrl.out ?_)
  refine (refPutR_ok (decR l) _ h8).mono ?_
  rintro e wc ⟨v5, rfl, ho5, hb5⟩
  have hM3 := hM2.since hb5
  have hR3 := hR2.since hb5
  have hw3 := hb2.trans (hb5.mono hb2.size)
  clear hM2 hR2 hb2 hb5 hD
  cases hok : okR (decR l) with
  | false =>
    have g := gotR_no (show takeR l = none from by unfold takeR; rw [if_neg (fun e => by rw [hok] at e; exact absurd e.2.1 (by simp))])
    have e5 : codeR (decR l) = 1 ∧ bytesR (decR l) = [] := ⟨if_neg (by simp [hok]), if_neg (by simp [hok])⟩
    rw [e5.2] at ho5
    rw [e5.1]
    obtain ⟨A5, c5, rfl, -⟩ := ho5.seen_at (k := 0) rfl
    replace g := Lib.hid g
    clear ho5 hM3
    go_wp2_with (guard_target =~ wpList _ _ _ (Oper.mk _ (Op.store 28 _ _) _ _ _ _ :: _) _ _; refine wpList_store_arr (cs' := rv zR) 14 rfl rfl rfl rfl hR3 (by kernel_rfl) (rv_len _ zr_eight) (rv_len _ zr_eight) (rv_one _) ?_)
    intro wd hR4 ho hbb hsz
    have hw4 := hw3.trans (hbb.mono (Nat.le_refl _))
    go_wp2
    exact ret_arr_tmp rfl w.heap.size _ _ rfl hR4 Try.underlying28 rfl (by kernel_rfl) rfl ⟨by rw [g.out.1, g.out.2]; rfl, hw4⟩
  | true =>
    rw [(codeR_ok hok).2] at ho5
    rw [(codeR_ok hok).1]
    obtain ⟨k5, hk5⟩ : ∃ k, (replyB (decR l)).length = k := ⟨_, rfl⟩
    obtain ⟨A5, c5, rfl, hs5⟩ := ho5.seen_at hk5
    obtain ⟨s1, hs1⟩ : ∃ s : ByteArray, s = ⟨(replyB (decR l)).toArray⟩ := ⟨_, rfl⟩
    obtain ⟨s2, hs2⟩ : ∃ s : ByteArray, s = ⟨l.toArray⟩ := ⟨_, rfl⟩
    have t1 := hs5.str k5 c5 hk5 s1 hs1
    have t2 := (hs.since hw3).str n c hl.out s2 hs2
    obtain ⟨bN, hbN⟩ : ∃ b, (s1.toList == s2.toList) = b := ⟨_, rfl⟩
    have hbM : (s1.toList != s2.toList) = !bN := by rw [bne, hbN]
    have hcmp : bN = true ↔ replyB (decR l) = l := by
      rw [← hbN, hs1, hs2, ByteArray.toList_eq, ByteArray.toList_eq, beq_iff_eq]
    clear ho5 hs5 hk5 hs1 hs2
    cases bN
    · simp only [Bool.not_false] at hbM
      have g := gotR_no (show takeR l = none from by unfold takeR; rw [if_neg (fun e => by have := hcmp.2 e.2.2; cases this)])
      replace g := Lib.hid g
      clear hcmp hM3
      go_wp2_with (guard_target =~ wpList _ _ _ (Oper.mk _ (Op.store 28 _ _) _ _ _ _ :: _) _ _; refine wpList_store_arr (cs' := rv zR) 14 rfl rfl rfl rfl hR3 (by kernel_rfl) (rv_len _ zr_eight) (rv_len _ zr_eight) (rv_one _) ?_)
      intro wd hR4 ho hbb hsz
      have hw4 := hw3.trans (hbb.mono (Nat.le_refl _))
      go_wp2
      exact ret_arr_tmp rfl w.heap.size _ _ rfl hR4 Try.underlying28 rfl (by kernel_rfl) rfl ⟨by rw [g.out.1, g.out.2]; rfl, hw4⟩
    · simp only [Bool.not_true] at hbM
      have g := got_someR (show takeR l = some (decR l) from by unfold takeR; rw [if_pos ⟨by rw [hl.out]; omega, hok, hcmp.1 rfl⟩])
      replace g := Lib.hid g
      clear hcmp
      go_wp2_with (first
        | (guard_target =~ wpList _ _ _ (Oper.mk _ (Op.load 28 _) _ _ _ _ :: _) _ _; refine wpList_load_arr 14 rfl rfl rfl hM3 (by kernel_rfl) hrl.out ?_)
        | (guard_target =~ wpList _ _ _ (Oper.mk _ (Op.store 28 _ _) _ _ _ _ :: _) _ _; refine wpList_store_arr (cs' := rv (decR l)) 14 rfl rfl rfl rfl hR3 (by kernel_rfl) (rv_len _ zr_eight) hrl.out (rv_one _) ?_))
      intro wd hR4 ho hbb hsz
      have hw4 := hw3.trans (hbb.mono (Nat.le_refl _))
      go_wp2
      exact ret_arr_tmp rfl w.heap.size _ _ rfl hR4 Try.underlying28 rfl (by rw [hrl.out]; kernel_rfl) rfl ⟨by rw [g.out.1, g.out.2]; rfl, hw4⟩
set_option maxRecDepth 100000 in
set_option maxHeartbeats 8000000 in
theorem refTakeR_133 (A : Option Addr) (n c : Nat) (l : List UInt8) (w : World) (hl : l.length = n) (hc : n ≤ c) (hn : n ≤ 1048576) (hs : Seen w A l) (h9 : ¬ 9 < n) (hk : atB l 0 = 133) : Calls Try.prog 18 #[.slice A n c] w fun e w' => e = .returned (.tuple #[.agg (rv (gotR l)).toArray, .int .i64 (codeTR l)]) ∧ Below w.heap.size w w' := by
  have hs1 := hs.alloc (.cells #[.int .i64 0, .int .i64 0, .int .i64 0, .int .i64 0, .int .i64 0, .int .i64 0, .int .u8 0, .int .u8 0, .int .u8 0, .int .u8 0, .int .u8 0, .int .u8 0, .int .u8 0, .int .u8 0] 28)
  obtain ⟨b1, hb1⟩ : ∃ b : UInt8, l.getD 1 0 = b := ⟨_, rfl⟩
  have k1 := UInt8.toNat_lt b1
  have ha1 : atB l 1 = (b1.toNat : Int) := by unfold atB; rw [hb1]
  obtain ⟨b2, hb2⟩ : ∃ b : UInt8, l.getD 2 0 = b := ⟨_, rfl⟩
  have k2 := UInt8.toNat_lt b2
  have ha2 : atB l 2 = (b2.toNat : Int) := by unfold atB; rw [hb2]
  have hD : decR l = namedR ⟨133, 0, 0, 0, (256 * (b1.toNat : Int) + (b2.toNat : Int)), 0, [0, 0, 0, 0, 0, 0, 0, 0]⟩ := by
    unfold decR
    rw [hk, ha1, ha2]
    rfl
  replace hD := Lib.hid hD
  replace hl := Lib.hid hl
  replace hk := Lib.hid hk
  replace ha1 := Lib.hid ha1
  clear hb1
  replace ha2 := Lib.hid ha2
  clear hb2
  go_enter Try.func18, Try.ntmps18
  try dsimp only [List.append]
  go_wp2_with fail
  refine (at_ok A n c 0 l _ (133) _ hl.out hs1 rfl hk.out).mono ?_
  rintro e w' ⟨rfl, rfl⟩
  go_wp2_with fail
  refine (at_ok A n c 1 l _ ((b1.toNat : Int)) _ hl.out (hs1.alloc _) rfl ha1.out).mono ?_
  rintro e w' ⟨rfl, rfl⟩
  go_wp2_with fail
  refine (at_ok A n c 2 l _ ((b2.toNat : Int)) _ hl.out (hs1.alloc _) rfl ha2.out).mono ?_
  rintro e w' ⟨rfl, rfl⟩
  go_wp2_with (guard_target =~ wpList _ _ _ (Oper.mk _ (Op.load 28 _) _ _ _ _ :: _) _ _; refine wpList_load_arr 14 rfl rfl rfl (arr_snd w _ (rv ⟨133, 0, 0, 0, (256 * (b1.toNat : Int) + (b2.toNat : Int)), 0, [0, 0, 0, 0, 0, 0, 0, 0]⟩) _ 28 rfl) (by kernel_rfl) rfl ?_)
  refine (replies_ok ⟨133, 0, 0, 0, (256 * (b1.toNat : Int) + (b2.toNat : Int)), 0, [0, 0, 0, 0, 0, 0, 0, 0]⟩ rfl _).mono ?_
  rintro e wa ⟨rfl, hb6⟩
  obtain ⟨hM, hR, hb⟩ := since_two (zs := rv zR) (cs := rv ⟨133, 0, 0, 0, (256 * (b1.toNat : Int) + (b2.toNat : Int)), 0, [0, 0, 0, 0, 0, 0, 0, 0]⟩) hb6 rfl rfl
  clear hb6
  rw [← hD.out]
  have hltR := hR.lt
  have h8 := decR_eight l
  have hrl := rv_len (decR l) h8
  replace hrl := Lib.hid hrl
  go_wp2_with (first
    | (guard_target =~ wpList _ _ _ (Oper.mk _ (Op.store 28 _ _) _ _ _ _ :: _) _ _; refine wpList_store_arr (cs' := rv (decR l)) 14 rfl rfl rfl rfl hM (by kernel_rfl) (by simp [rv, vals, zR, z8]) hrl.out (rv_one _) ?_))
  intro wb hM2 ho hbb hsz
  have hR2 := hR.of_block (ho w.heap.size (Nat.ne_of_lt (Nat.lt_succ_self _)))
  have hb2 := hb.trans (hbb.mono (Nat.le_succ _))
  clear hR hM hb ho hbb hsz hltR
  go_wp2_with (guard_target =~ wpList _ _ _ (Oper.mk _ (Op.load 28 _) _ _ _ _ :: _) _ _; refine wpList_load_arr 14 rfl rfl rfl hM2 (by kernel_rfl) hrl.out ?_)
  refine (refPutR_ok (decR l) _ h8).mono ?_
  rintro e wc ⟨v5, rfl, ho5, hb5⟩
  have hM3 := hM2.since hb5
  have hR3 := hR2.since hb5
  have hw3 := hb2.trans (hb5.mono hb2.size)
  clear hM2 hR2 hb2 hb5 hD
  cases hok : okR (decR l) with
  | false =>
    have g := gotR_no (show takeR l = none from by unfold takeR; rw [if_neg (fun e => by rw [hok] at e; exact absurd e.2.1 (by simp))])
    have e5 : codeR (decR l) = 1 ∧ bytesR (decR l) = [] := ⟨if_neg (by simp [hok]), if_neg (by simp [hok])⟩
    rw [e5.2] at ho5
    rw [e5.1]
    obtain ⟨A5, c5, rfl, -⟩ := ho5.seen_at (k := 0) rfl
    replace g := Lib.hid g
    clear ho5 hM3
    go_wp2_with (guard_target =~ wpList _ _ _ (Oper.mk _ (Op.store 28 _ _) _ _ _ _ :: _) _ _; refine wpList_store_arr (cs' := rv zR) 14 rfl rfl rfl rfl hR3 (by kernel_rfl) (rv_len _ zr_eight) (rv_len _ zr_eight) (rv_one _) ?_)
    intro wd hR4 ho hbb hsz
    have hw4 := hw3.trans (hbb.mono (Nat.le_refl _))
    go_wp2
    exact ret_arr_tmp rfl w.heap.size _ _ rfl hR4 Try.underlying28 rfl (by kernel_rfl) rfl ⟨by rw [g.out.1, g.out.2]; rfl, hw4⟩
  | true =>
    rw [(codeR_ok hok).2] at ho5
    rw [(codeR_ok hok).1]
    obtain ⟨k5, hk5⟩ : ∃ k, (replyB (decR l)).length = k := ⟨_, rfl⟩
    obtain ⟨A5, c5, rfl, hs5⟩ := ho5.seen_at hk5
    obtain ⟨s1, hs1⟩ : ∃ s : ByteArray, s = ⟨(replyB (decR l)).toArray⟩ := ⟨_, rfl⟩
    obtain ⟨s2, hs2⟩ : ∃ s : ByteArray, s = ⟨l.toArray⟩ := ⟨_, rfl⟩
    have t1 := hs5.str k5 c5 hk5 s1 hs1
    have t2 := (hs.since hw3).str n c hl.out s2 hs2
    obtain ⟨bN, hbN⟩ : ∃ b, (s1.toList == s2.toList) = b := ⟨_, rfl⟩
    have hbM : (s1.toList != s2.toList) = !bN := by rw [bne, hbN]
    have hcmp : bN = true ↔ replyB (decR l) = l := by
      rw [← hbN, hs1, hs2, ByteArray.toList_eq, ByteArray.toList_eq, beq_iff_eq]
    clear ho5 hs5 hk5 hs1 hs2
    cases bN
    · simp only [Bool.not_false] at hbM
      have g := gotR_no (show takeR l = none from by unfold takeR; rw [if_neg (fun e => by have := hcmp.2 e.2.2; cases this)])
      replace g := Lib.hid g
      clear hcmp hM3
      go_wp2_with (guard_target =~ wpList _ _ _ (Oper.mk _ (Op.store 28 _ _) _ _ _ _ :: _) _ _; refine wpList_store_arr (cs' := rv zR) 14 rfl rfl rfl rfl hR3 (by kernel_rfl) (rv_len _ zr_eight) (rv_len _ zr_eight) (rv_one _) ?_)
      intro wd hR4 ho hbb hsz
      have hw4 := hw3.trans (hbb.mono (Nat.le_refl _))
      go_wp2
      exact ret_arr_tmp rfl w.heap.size _ _ rfl hR4 Try.underlying28 rfl (by kernel_rfl) rfl ⟨by rw [g.out.1, g.out.2]; rfl, hw4⟩
    · simp only [Bool.not_true] at hbM
      have g := got_someR (show takeR l = some (decR l) from by unfold takeR; rw [if_pos ⟨by rw [hl.out]; omega, hok, hcmp.1 rfl⟩])
      replace g := Lib.hid g
      clear hcmp
      go_wp2_with (first
        | (guard_target =~ wpList _ _ _ (Oper.mk _ (Op.load 28 _) _ _ _ _ :: _) _ _; refine wpList_load_arr 14 rfl rfl rfl hM3 (by kernel_rfl) hrl.out ?_)
        | (guard_target =~ wpList _ _ _ (Oper.mk _ (Op.store 28 _ _) _ _ _ _ :: _) _ _; refine wpList_store_arr (cs' := rv (decR l)) 14 rfl rfl rfl rfl hR3 (by kernel_rfl) (rv_len _ zr_eight) hrl.out (rv_one _) ?_))
      intro wd hR4 ho hbb hsz
      have hw4 := hw3.trans (hbb.mono (Nat.le_refl _))
      go_wp2
      exact ret_arr_tmp rfl w.heap.size _ _ rfl hR4 Try.underlying28 rfl (by rw [hrl.out]; kernel_rfl) rfl ⟨by rw [g.out.1, g.out.2]; rfl, hw4⟩
set_option maxRecDepth 100000 in
set_option maxHeartbeats 8000000 in
theorem refTakeR_134 (A : Option Addr) (n c : Nat) (l : List UInt8) (w : World) (hl : l.length = n) (hc : n ≤ c) (hn : n ≤ 1048576) (hs : Seen w A l) (h9 : ¬ 9 < n) (hk : atB l 0 = 134) : Calls Try.prog 18 #[.slice A n c] w fun e w' => e = .returned (.tuple #[.agg (rv (gotR l)).toArray, .int .i64 (codeTR l)]) ∧ Below w.heap.size w w' := by
  have hs1 := hs.alloc (.cells #[.int .i64 0, .int .i64 0, .int .i64 0, .int .i64 0, .int .i64 0, .int .i64 0, .int .u8 0, .int .u8 0, .int .u8 0, .int .u8 0, .int .u8 0, .int .u8 0, .int .u8 0, .int .u8 0] 28)
  obtain ⟨b1, hb1⟩ : ∃ b : UInt8, l.getD 1 0 = b := ⟨_, rfl⟩
  have k1 := UInt8.toNat_lt b1
  have ha1 : atB l 1 = (b1.toNat : Int) := by unfold atB; rw [hb1]
  obtain ⟨b2, hb2⟩ : ∃ b : UInt8, l.getD 2 0 = b := ⟨_, rfl⟩
  have k2 := UInt8.toNat_lt b2
  have ha2 : atB l 2 = (b2.toNat : Int) := by unfold atB; rw [hb2]
  obtain ⟨b3, hb3⟩ : ∃ b : UInt8, l.getD 3 0 = b := ⟨_, rfl⟩
  have k3 := UInt8.toNat_lt b3
  have ha3 : atB l 3 = (b3.toNat : Int) := by unfold atB; rw [hb3]
  have hD : decR l = namedR ⟨134, 0, 0, (b1.toNat : Int), (256 * (b2.toNat : Int) + (b3.toNat : Int)), 0, [0, 0, 0, 0, 0, 0, 0, 0]⟩ := by
    unfold decR
    rw [hk, ha1, ha2, ha3]
    rfl
  replace hD := Lib.hid hD
  replace hl := Lib.hid hl
  replace hk := Lib.hid hk
  replace ha1 := Lib.hid ha1
  clear hb1
  replace ha2 := Lib.hid ha2
  clear hb2
  replace ha3 := Lib.hid ha3
  clear hb3
  go_enter Try.func18, Try.ntmps18
  try dsimp only [List.append]
  go_wp2_with fail
  refine (at_ok A n c 0 l _ (134) _ hl.out hs1 rfl hk.out).mono ?_
  rintro e w' ⟨rfl, rfl⟩
  go_wp2_with fail
  refine (at_ok A n c 1 l _ ((b1.toNat : Int)) _ hl.out (hs1.alloc _) rfl ha1.out).mono ?_
  rintro e w' ⟨rfl, rfl⟩
  go_wp2_with fail
  refine (at_ok A n c 2 l _ ((b2.toNat : Int)) _ hl.out (hs1.alloc _) rfl ha2.out).mono ?_
  rintro e w' ⟨rfl, rfl⟩
  go_wp2_with fail
  refine (at_ok A n c 3 l _ ((b3.toNat : Int)) _ hl.out (hs1.alloc _) rfl ha3.out).mono ?_
  rintro e w' ⟨rfl, rfl⟩
  go_wp2_with (guard_target =~ wpList _ _ _ (Oper.mk _ (Op.load 28 _) _ _ _ _ :: _) _ _; refine wpList_load_arr 14 rfl rfl rfl (arr_snd w _ (rv ⟨134, 0, 0, (b1.toNat : Int), (256 * (b2.toNat : Int) + (b3.toNat : Int)), 0, [0, 0, 0, 0, 0, 0, 0, 0]⟩) _ 28 rfl) (by kernel_rfl) rfl ?_)
  refine (replies_ok ⟨134, 0, 0, (b1.toNat : Int), (256 * (b2.toNat : Int) + (b3.toNat : Int)), 0, [0, 0, 0, 0, 0, 0, 0, 0]⟩ rfl _).mono ?_
  rintro e wa ⟨rfl, hb6⟩
  obtain ⟨hM, hR, hb⟩ := since_two (zs := rv zR) (cs := rv ⟨134, 0, 0, (b1.toNat : Int), (256 * (b2.toNat : Int) + (b3.toNat : Int)), 0, [0, 0, 0, 0, 0, 0, 0, 0]⟩) hb6 rfl rfl
  clear hb6
  rw [← hD.out]
  have hltR := hR.lt
  have h8 := decR_eight l
  have hrl := rv_len (decR l) h8
  replace hrl := Lib.hid hrl
  go_wp2_with (first
    | (guard_target =~ wpList _ _ _ (Oper.mk _ (Op.store 28 _ _) _ _ _ _ :: _) _ _; refine wpList_store_arr (cs' := rv (decR l)) 14 rfl rfl rfl rfl hM (by kernel_rfl) (by simp [rv, vals, zR, z8]) hrl.out (rv_one _) ?_))
  intro wb hM2 ho hbb hsz
  have hR2 := hR.of_block (ho w.heap.size (Nat.ne_of_lt (Nat.lt_succ_self _)))
  have hb2 := hb.trans (hbb.mono (Nat.le_succ _))
  clear hR hM hb ho hbb hsz hltR
  go_wp2_with (guard_target =~ wpList _ _ _ (Oper.mk _ (Op.load 28 _) _ _ _ _ :: _) _ _; refine wpList_load_arr 14 rfl rfl rfl hM2 (by kernel_rfl) hrl.out ?_)
  refine (refPutR_ok (decR l) _ h8).mono ?_
  rintro e wc ⟨v5, rfl, ho5, hb5⟩
  have hM3 := hM2.since hb5
  have hR3 := hR2.since hb5
  have hw3 := hb2.trans (hb5.mono hb2.size)
  clear hM2 hR2 hb2 hb5 hD
  cases hok : okR (decR l) with
  | false =>
    have g := gotR_no (show takeR l = none from by unfold takeR; rw [if_neg (fun e => by rw [hok] at e; exact absurd e.2.1 (by simp))])
    have e5 : codeR (decR l) = 1 ∧ bytesR (decR l) = [] := ⟨if_neg (by simp [hok]), if_neg (by simp [hok])⟩
    rw [e5.2] at ho5
    rw [e5.1]
    obtain ⟨A5, c5, rfl, -⟩ := ho5.seen_at (k := 0) rfl
    replace g := Lib.hid g
    clear ho5 hM3
    go_wp2_with (guard_target =~ wpList _ _ _ (Oper.mk _ (Op.store 28 _ _) _ _ _ _ :: _) _ _; refine wpList_store_arr (cs' := rv zR) 14 rfl rfl rfl rfl hR3 (by kernel_rfl) (rv_len _ zr_eight) (rv_len _ zr_eight) (rv_one _) ?_)
    intro wd hR4 ho hbb hsz
    have hw4 := hw3.trans (hbb.mono (Nat.le_refl _))
    go_wp2
    exact ret_arr_tmp rfl w.heap.size _ _ rfl hR4 Try.underlying28 rfl (by kernel_rfl) rfl ⟨by rw [g.out.1, g.out.2]; rfl, hw4⟩
  | true =>
    rw [(codeR_ok hok).2] at ho5
    rw [(codeR_ok hok).1]
    obtain ⟨k5, hk5⟩ : ∃ k, (replyB (decR l)).length = k := ⟨_, rfl⟩
    obtain ⟨A5, c5, rfl, hs5⟩ := ho5.seen_at hk5
    obtain ⟨s1, hs1⟩ : ∃ s : ByteArray, s = ⟨(replyB (decR l)).toArray⟩ := ⟨_, rfl⟩
    obtain ⟨s2, hs2⟩ : ∃ s : ByteArray, s = ⟨l.toArray⟩ := ⟨_, rfl⟩
    have t1 := hs5.str k5 c5 hk5 s1 hs1
    have t2 := (hs.since hw3).str n c hl.out s2 hs2
    obtain ⟨bN, hbN⟩ : ∃ b, (s1.toList == s2.toList) = b := ⟨_, rfl⟩
    have hbM : (s1.toList != s2.toList) = !bN := by rw [bne, hbN]
    have hcmp : bN = true ↔ replyB (decR l) = l := by
      rw [← hbN, hs1, hs2, ByteArray.toList_eq, ByteArray.toList_eq, beq_iff_eq]
    clear ho5 hs5 hk5 hs1 hs2
    cases bN
    · simp only [Bool.not_false] at hbM
      have g := gotR_no (show takeR l = none from by unfold takeR; rw [if_neg (fun e => by have := hcmp.2 e.2.2; cases this)])
      replace g := Lib.hid g
      clear hcmp hM3
      go_wp2_with (guard_target =~ wpList _ _ _ (Oper.mk _ (Op.store 28 _ _) _ _ _ _ :: _) _ _; refine wpList_store_arr (cs' := rv zR) 14 rfl rfl rfl rfl hR3 (by kernel_rfl) (rv_len _ zr_eight) (rv_len _ zr_eight) (rv_one _) ?_)
      intro wd hR4 ho hbb hsz
      have hw4 := hw3.trans (hbb.mono (Nat.le_refl _))
      go_wp2
      exact ret_arr_tmp rfl w.heap.size _ _ rfl hR4 Try.underlying28 rfl (by kernel_rfl) rfl ⟨by rw [g.out.1, g.out.2]; rfl, hw4⟩
    · simp only [Bool.not_true] at hbM
      have g := got_someR (show takeR l = some (decR l) from by unfold takeR; rw [if_pos ⟨by rw [hl.out]; omega, hok, hcmp.1 rfl⟩])
      replace g := Lib.hid g
      clear hcmp
      go_wp2_with (first
        | (guard_target =~ wpList _ _ _ (Oper.mk _ (Op.load 28 _) _ _ _ _ :: _) _ _; refine wpList_load_arr 14 rfl rfl rfl hM3 (by kernel_rfl) hrl.out ?_)
        | (guard_target =~ wpList _ _ _ (Oper.mk _ (Op.store 28 _ _) _ _ _ _ :: _) _ _; refine wpList_store_arr (cs' := rv (decR l)) 14 rfl rfl rfl rfl hR3 (by kernel_rfl) (rv_len _ zr_eight) hrl.out (rv_one _) ?_))
      intro wd hR4 ho hbb hsz
      have hw4 := hw3.trans (hbb.mono (Nat.le_refl _))
      go_wp2
      exact ret_arr_tmp rfl w.heap.size _ _ rfl hR4 Try.underlying28 rfl (by rw [hrl.out]; kernel_rfl) rfl ⟨by rw [g.out.1, g.out.2]; rfl, hw4⟩
set_option maxRecDepth 100000 in
set_option maxHeartbeats 8000000 in
theorem refTakeR_135 (A : Option Addr) (n c : Nat) (l : List UInt8) (w : World) (hl : l.length = n) (hc : n ≤ c) (hn : n ≤ 1048576) (hs : Seen w A l) (h9 : ¬ 9 < n) (hk : atB l 0 = 135) : Calls Try.prog 18 #[.slice A n c] w fun e w' => e = .returned (.tuple #[.agg (rv (gotR l)).toArray, .int .i64 (codeTR l)]) ∧ Below w.heap.size w w' := by
  have hs1 := hs.alloc (.cells #[.int .i64 0, .int .i64 0, .int .i64 0, .int .i64 0, .int .i64 0, .int .i64 0, .int .u8 0, .int .u8 0, .int .u8 0, .int .u8 0, .int .u8 0, .int .u8 0, .int .u8 0, .int .u8 0] 28)
  obtain ⟨b1, hb1⟩ : ∃ b : UInt8, l.getD 1 0 = b := ⟨_, rfl⟩
  have k1 := UInt8.toNat_lt b1
  have ha1 : atB l 1 = (b1.toNat : Int) := by unfold atB; rw [hb1]
  obtain ⟨b2, hb2⟩ : ∃ b : UInt8, l.getD 2 0 = b := ⟨_, rfl⟩
  have k2 := UInt8.toNat_lt b2
  have ha2 : atB l 2 = (b2.toNat : Int) := by unfold atB; rw [hb2]
  obtain ⟨b3, hb3⟩ : ∃ b : UInt8, l.getD 3 0 = b := ⟨_, rfl⟩
  have k3 := UInt8.toNat_lt b3
  have ha3 : atB l 3 = (b3.toNat : Int) := by unfold atB; rw [hb3]
  have hD : decR l = namedR ⟨135, 0, 0, (b1.toNat : Int), (256 * (b2.toNat : Int) + (b3.toNat : Int)), 0, [0, 0, 0, 0, 0, 0, 0, 0]⟩ := by
    unfold decR
    rw [hk, ha1, ha2, ha3]
    rfl
  replace hD := Lib.hid hD
  replace hl := Lib.hid hl
  replace hk := Lib.hid hk
  replace ha1 := Lib.hid ha1
  clear hb1
  replace ha2 := Lib.hid ha2
  clear hb2
  replace ha3 := Lib.hid ha3
  clear hb3
  go_enter Try.func18, Try.ntmps18
  try dsimp only [List.append]
  go_wp2_with fail
  refine (at_ok A n c 0 l _ (135) _ hl.out hs1 rfl hk.out).mono ?_
  rintro e w' ⟨rfl, rfl⟩
  go_wp2_with fail
  refine (at_ok A n c 1 l _ ((b1.toNat : Int)) _ hl.out (hs1.alloc _) rfl ha1.out).mono ?_
  rintro e w' ⟨rfl, rfl⟩
  go_wp2_with fail
  refine (at_ok A n c 2 l _ ((b2.toNat : Int)) _ hl.out (hs1.alloc _) rfl ha2.out).mono ?_
  rintro e w' ⟨rfl, rfl⟩
  go_wp2_with fail
  refine (at_ok A n c 3 l _ ((b3.toNat : Int)) _ hl.out (hs1.alloc _) rfl ha3.out).mono ?_
  rintro e w' ⟨rfl, rfl⟩
  go_wp2_with (guard_target =~ wpList _ _ _ (Oper.mk _ (Op.load 28 _) _ _ _ _ :: _) _ _; refine wpList_load_arr 14 rfl rfl rfl (arr_snd w _ (rv ⟨135, 0, 0, (b1.toNat : Int), (256 * (b2.toNat : Int) + (b3.toNat : Int)), 0, [0, 0, 0, 0, 0, 0, 0, 0]⟩) _ 28 rfl) (by kernel_rfl) rfl ?_)
  refine (replies_ok ⟨135, 0, 0, (b1.toNat : Int), (256 * (b2.toNat : Int) + (b3.toNat : Int)), 0, [0, 0, 0, 0, 0, 0, 0, 0]⟩ rfl _).mono ?_
  rintro e wa ⟨rfl, hb6⟩
  obtain ⟨hM, hR, hb⟩ := since_two (zs := rv zR) (cs := rv ⟨135, 0, 0, (b1.toNat : Int), (256 * (b2.toNat : Int) + (b3.toNat : Int)), 0, [0, 0, 0, 0, 0, 0, 0, 0]⟩) hb6 rfl rfl
  clear hb6
  rw [← hD.out]
  have hltR := hR.lt
  have h8 := decR_eight l
  have hrl := rv_len (decR l) h8
  replace hrl := Lib.hid hrl
  go_wp2_with (first
    | (guard_target =~ wpList _ _ _ (Oper.mk _ (Op.store 28 _ _) _ _ _ _ :: _) _ _; refine wpList_store_arr (cs' := rv (decR l)) 14 rfl rfl rfl rfl hM (by kernel_rfl) (by simp [rv, vals, zR, z8]) hrl.out (rv_one _) ?_))
  intro wb hM2 ho hbb hsz
  have hR2 := hR.of_block (ho w.heap.size (Nat.ne_of_lt (Nat.lt_succ_self _)))
  have hb2 := hb.trans (hbb.mono (Nat.le_succ _))
  clear hR hM hb ho hbb hsz hltR
  go_wp2_with (guard_target =~ wpList _ _ _ (Oper.mk _ (Op.load 28 _) _ _ _ _ :: _) _ _; refine wpList_load_arr 14 rfl rfl rfl hM2 (by kernel_rfl) hrl.out ?_)
  refine (refPutR_ok (decR l) _ h8).mono ?_
  rintro e wc ⟨v5, rfl, ho5, hb5⟩
  have hM3 := hM2.since hb5
  have hR3 := hR2.since hb5
  have hw3 := hb2.trans (hb5.mono hb2.size)
  clear hM2 hR2 hb2 hb5 hD
  cases hok : okR (decR l) with
  | false =>
    have g := gotR_no (show takeR l = none from by unfold takeR; rw [if_neg (fun e => by rw [hok] at e; exact absurd e.2.1 (by simp))])
    have e5 : codeR (decR l) = 1 ∧ bytesR (decR l) = [] := ⟨if_neg (by simp [hok]), if_neg (by simp [hok])⟩
    rw [e5.2] at ho5
    rw [e5.1]
    obtain ⟨A5, c5, rfl, -⟩ := ho5.seen_at (k := 0) rfl
    replace g := Lib.hid g
    clear ho5 hM3
    go_wp2_with (guard_target =~ wpList _ _ _ (Oper.mk _ (Op.store 28 _ _) _ _ _ _ :: _) _ _; refine wpList_store_arr (cs' := rv zR) 14 rfl rfl rfl rfl hR3 (by kernel_rfl) (rv_len _ zr_eight) (rv_len _ zr_eight) (rv_one _) ?_)
    intro wd hR4 ho hbb hsz
    have hw4 := hw3.trans (hbb.mono (Nat.le_refl _))
    go_wp2
    exact ret_arr_tmp rfl w.heap.size _ _ rfl hR4 Try.underlying28 rfl (by kernel_rfl) rfl ⟨by rw [g.out.1, g.out.2]; rfl, hw4⟩
  | true =>
    rw [(codeR_ok hok).2] at ho5
    rw [(codeR_ok hok).1]
    obtain ⟨k5, hk5⟩ : ∃ k, (replyB (decR l)).length = k := ⟨_, rfl⟩
    obtain ⟨A5, c5, rfl, hs5⟩ := ho5.seen_at hk5
    obtain ⟨s1, hs1⟩ : ∃ s : ByteArray, s = ⟨(replyB (decR l)).toArray⟩ := ⟨_, rfl⟩
    obtain ⟨s2, hs2⟩ : ∃ s : ByteArray, s = ⟨l.toArray⟩ := ⟨_, rfl⟩
    have t1 := hs5.str k5 c5 hk5 s1 hs1
    have t2 := (hs.since hw3).str n c hl.out s2 hs2
    obtain ⟨bN, hbN⟩ : ∃ b, (s1.toList == s2.toList) = b := ⟨_, rfl⟩
    have hbM : (s1.toList != s2.toList) = !bN := by rw [bne, hbN]
    have hcmp : bN = true ↔ replyB (decR l) = l := by
      rw [← hbN, hs1, hs2, ByteArray.toList_eq, ByteArray.toList_eq, beq_iff_eq]
    clear ho5 hs5 hk5 hs1 hs2
    cases bN
    · simp only [Bool.not_false] at hbM
      have g := gotR_no (show takeR l = none from by unfold takeR; rw [if_neg (fun e => by have := hcmp.2 e.2.2; cases this)])
      replace g := Lib.hid g
      clear hcmp hM3
      go_wp2_with (guard_target =~ wpList _ _ _ (Oper.mk _ (Op.store 28 _ _) _ _ _ _ :: _) _ _; refine wpList_store_arr (cs' := rv zR) 14 rfl rfl rfl rfl hR3 (by kernel_rfl) (rv_len _ zr_eight) (rv_len _ zr_eight) (rv_one _) ?_)
      intro wd hR4 ho hbb hsz
      have hw4 := hw3.trans (hbb.mono (Nat.le_refl _))
      go_wp2
      exact ret_arr_tmp rfl w.heap.size _ _ rfl hR4 Try.underlying28 rfl (by kernel_rfl) rfl ⟨by rw [g.out.1, g.out.2]; rfl, hw4⟩
    · simp only [Bool.not_true] at hbM
      have g := got_someR (show takeR l = some (decR l) from by unfold takeR; rw [if_pos ⟨by rw [hl.out]; omega, hok, hcmp.1 rfl⟩])
      replace g := Lib.hid g
      clear hcmp
      go_wp2_with (first
        | (guard_target =~ wpList _ _ _ (Oper.mk _ (Op.load 28 _) _ _ _ _ :: _) _ _; refine wpList_load_arr 14 rfl rfl rfl hM3 (by kernel_rfl) hrl.out ?_)
        | (guard_target =~ wpList _ _ _ (Oper.mk _ (Op.store 28 _ _) _ _ _ _ :: _) _ _; refine wpList_store_arr (cs' := rv (decR l)) 14 rfl rfl rfl rfl hR3 (by kernel_rfl) (rv_len _ zr_eight) hrl.out (rv_one _) ?_))
      intro wd hR4 ho hbb hsz
      have hw4 := hw3.trans (hbb.mono (Nat.le_refl _))
      go_wp2
      exact ret_arr_tmp rfl w.heap.size _ _ rfl hR4 Try.underlying28 rfl (by rw [hrl.out]; kernel_rfl) rfl ⟨by rw [g.out.1, g.out.2]; rfl, hw4⟩
set_option maxRecDepth 100000 in
set_option maxHeartbeats 8000000 in
theorem refTakeR_136 (A : Option Addr) (n c : Nat) (l : List UInt8) (w : World) (hl : l.length = n) (hc : n ≤ c) (hn : n ≤ 1048576) (hs : Seen w A l) (h9 : ¬ 9 < n) (hk : atB l 0 = 136) : Calls Try.prog 18 #[.slice A n c] w fun e w' => e = .returned (.tuple #[.agg (rv (gotR l)).toArray, .int .i64 (codeTR l)]) ∧ Below w.heap.size w w' := by
  have hs1 := hs.alloc (.cells #[.int .i64 0, .int .i64 0, .int .i64 0, .int .i64 0, .int .i64 0, .int .i64 0, .int .u8 0, .int .u8 0, .int .u8 0, .int .u8 0, .int .u8 0, .int .u8 0, .int .u8 0, .int .u8 0] 28)
  obtain ⟨b1, hb1⟩ : ∃ b : UInt8, l.getD 1 0 = b := ⟨_, rfl⟩
  have k1 := UInt8.toNat_lt b1
  have ha1 : atB l 1 = (b1.toNat : Int) := by unfold atB; rw [hb1]
  obtain ⟨b2, hb2⟩ : ∃ b : UInt8, l.getD 2 0 = b := ⟨_, rfl⟩
  have k2 := UInt8.toNat_lt b2
  have ha2 : atB l 2 = (b2.toNat : Int) := by unfold atB; rw [hb2]
  have hD : decR l = namedR ⟨136, 0, 0, (b1.toNat : Int), 0, (b2.toNat : Int), [0, 0, 0, 0, 0, 0, 0, 0]⟩ := by
    unfold decR
    rw [hk, ha1, ha2]
    rfl
  replace hD := Lib.hid hD
  replace hl := Lib.hid hl
  replace hk := Lib.hid hk
  replace ha1 := Lib.hid ha1
  clear hb1
  replace ha2 := Lib.hid ha2
  clear hb2
  go_enter Try.func18, Try.ntmps18
  try dsimp only [List.append]
  go_wp2_with fail
  refine (at_ok A n c 0 l _ (136) _ hl.out hs1 rfl hk.out).mono ?_
  rintro e w' ⟨rfl, rfl⟩
  go_wp2_with fail
  refine (at_ok A n c 1 l _ ((b1.toNat : Int)) _ hl.out (hs1.alloc _) rfl ha1.out).mono ?_
  rintro e w' ⟨rfl, rfl⟩
  go_wp2_with fail
  refine (at_ok A n c 2 l _ ((b2.toNat : Int)) _ hl.out (hs1.alloc _) rfl ha2.out).mono ?_
  rintro e w' ⟨rfl, rfl⟩
  go_wp2_with (guard_target =~ wpList _ _ _ (Oper.mk _ (Op.load 28 _) _ _ _ _ :: _) _ _; refine wpList_load_arr 14 rfl rfl rfl (arr_snd w _ (rv ⟨136, 0, 0, (b1.toNat : Int), 0, (b2.toNat : Int), [0, 0, 0, 0, 0, 0, 0, 0]⟩) _ 28 rfl) (by kernel_rfl) rfl ?_)
  refine (replies_ok ⟨136, 0, 0, (b1.toNat : Int), 0, (b2.toNat : Int), [0, 0, 0, 0, 0, 0, 0, 0]⟩ rfl _).mono ?_
  rintro e wa ⟨rfl, hb6⟩
  obtain ⟨hM, hR, hb⟩ := since_two (zs := rv zR) (cs := rv ⟨136, 0, 0, (b1.toNat : Int), 0, (b2.toNat : Int), [0, 0, 0, 0, 0, 0, 0, 0]⟩) hb6 rfl rfl
  clear hb6
  rw [← hD.out]
  have hltR := hR.lt
  have h8 := decR_eight l
  have hrl := rv_len (decR l) h8
  replace hrl := Lib.hid hrl
  go_wp2_with (first
    | (guard_target =~ wpList _ _ _ (Oper.mk _ (Op.store 28 _ _) _ _ _ _ :: _) _ _; refine wpList_store_arr (cs' := rv (decR l)) 14 rfl rfl rfl rfl hM (by kernel_rfl) (by simp [rv, vals, zR, z8]) hrl.out (rv_one _) ?_))
  intro wb hM2 ho hbb hsz
  have hR2 := hR.of_block (ho w.heap.size (Nat.ne_of_lt (Nat.lt_succ_self _)))
  have hb2 := hb.trans (hbb.mono (Nat.le_succ _))
  clear hR hM hb ho hbb hsz hltR
  go_wp2_with (guard_target =~ wpList _ _ _ (Oper.mk _ (Op.load 28 _) _ _ _ _ :: _) _ _; refine wpList_load_arr 14 rfl rfl rfl hM2 (by kernel_rfl) hrl.out ?_)
  refine (refPutR_ok (decR l) _ h8).mono ?_
  rintro e wc ⟨v5, rfl, ho5, hb5⟩
  have hM3 := hM2.since hb5
  have hR3 := hR2.since hb5
  have hw3 := hb2.trans (hb5.mono hb2.size)
  clear hM2 hR2 hb2 hb5 hD
  cases hok : okR (decR l) with
  | false =>
    have g := gotR_no (show takeR l = none from by unfold takeR; rw [if_neg (fun e => by rw [hok] at e; exact absurd e.2.1 (by simp))])
    have e5 : codeR (decR l) = 1 ∧ bytesR (decR l) = [] := ⟨if_neg (by simp [hok]), if_neg (by simp [hok])⟩
    rw [e5.2] at ho5
    rw [e5.1]
    obtain ⟨A5, c5, rfl, -⟩ := ho5.seen_at (k := 0) rfl
    replace g := Lib.hid g
    clear ho5 hM3
    go_wp2_with (guard_target =~ wpList _ _ _ (Oper.mk _ (Op.store 28 _ _) _ _ _ _ :: _) _ _; refine wpList_store_arr (cs' := rv zR) 14 rfl rfl rfl rfl hR3 (by kernel_rfl) (rv_len _ zr_eight) (rv_len _ zr_eight) (rv_one _) ?_)
    intro wd hR4 ho hbb hsz
    have hw4 := hw3.trans (hbb.mono (Nat.le_refl _))
    go_wp2
    exact ret_arr_tmp rfl w.heap.size _ _ rfl hR4 Try.underlying28 rfl (by kernel_rfl) rfl ⟨by rw [g.out.1, g.out.2]; rfl, hw4⟩
  | true =>
    rw [(codeR_ok hok).2] at ho5
    rw [(codeR_ok hok).1]
    obtain ⟨k5, hk5⟩ : ∃ k, (replyB (decR l)).length = k := ⟨_, rfl⟩
    obtain ⟨A5, c5, rfl, hs5⟩ := ho5.seen_at hk5
    obtain ⟨s1, hs1⟩ : ∃ s : ByteArray, s = ⟨(replyB (decR l)).toArray⟩ := ⟨_, rfl⟩
    obtain ⟨s2, hs2⟩ : ∃ s : ByteArray, s = ⟨l.toArray⟩ := ⟨_, rfl⟩
    have t1 := hs5.str k5 c5 hk5 s1 hs1
    have t2 := (hs.since hw3).str n c hl.out s2 hs2
    obtain ⟨bN, hbN⟩ : ∃ b, (s1.toList == s2.toList) = b := ⟨_, rfl⟩
    have hbM : (s1.toList != s2.toList) = !bN := by rw [bne, hbN]
    have hcmp : bN = true ↔ replyB (decR l) = l := by
      rw [← hbN, hs1, hs2, ByteArray.toList_eq, ByteArray.toList_eq, beq_iff_eq]
    clear ho5 hs5 hk5 hs1 hs2
    cases bN
    · simp only [Bool.not_false] at hbM
      have g := gotR_no (show takeR l = none from by unfold takeR; rw [if_neg (fun e => by have := hcmp.2 e.2.2; cases this)])
      replace g := Lib.hid g
      clear hcmp hM3
      go_wp2_with (guard_target =~ wpList _ _ _ (Oper.mk _ (Op.store 28 _ _) _ _ _ _ :: _) _ _; refine wpList_store_arr (cs' := rv zR) 14 rfl rfl rfl rfl hR3 (by kernel_rfl) (rv_len _ zr_eight) (rv_len _ zr_eight) (rv_one _) ?_)
      intro wd hR4 ho hbb hsz
      have hw4 := hw3.trans (hbb.mono (Nat.le_refl _))
      go_wp2
      exact ret_arr_tmp rfl w.heap.size _ _ rfl hR4 Try.underlying28 rfl (by kernel_rfl) rfl ⟨by rw [g.out.1, g.out.2]; rfl, hw4⟩
    · simp only [Bool.not_true] at hbM
      have g := got_someR (show takeR l = some (decR l) from by unfold takeR; rw [if_pos ⟨by rw [hl.out]; omega, hok, hcmp.1 rfl⟩])
      replace g := Lib.hid g
      clear hcmp
      go_wp2_with (first
        | (guard_target =~ wpList _ _ _ (Oper.mk _ (Op.load 28 _) _ _ _ _ :: _) _ _; refine wpList_load_arr 14 rfl rfl rfl hM3 (by kernel_rfl) hrl.out ?_)
        | (guard_target =~ wpList _ _ _ (Oper.mk _ (Op.store 28 _ _) _ _ _ _ :: _) _ _; refine wpList_store_arr (cs' := rv (decR l)) 14 rfl rfl rfl rfl hR3 (by kernel_rfl) (rv_len _ zr_eight) hrl.out (rv_one _) ?_))
      intro wd hR4 ho hbb hsz
      have hw4 := hw3.trans (hbb.mono (Nat.le_refl _))
      go_wp2
      exact ret_arr_tmp rfl w.heap.size _ _ rfl hR4 Try.underlying28 rfl (by rw [hrl.out]; kernel_rfl) rfl ⟨by rw [g.out.1, g.out.2]; rfl, hw4⟩
set_option maxRecDepth 100000 in
set_option maxHeartbeats 8000000 in
theorem refTakeR_no (A : Option Addr) (n c : Nat) (l : List UInt8) (w : World) (hl : l.length = n) (hc : n ≤ c) (hn : n ≤ 1048576) (hs : Seen w A l) (h9 : ¬ 9 < n) (n0 : ¬ atB l 0 = 129) (n1 : ¬ atB l 0 = 130) (n2 : ¬ atB l 0 = 131) (n3 : ¬ atB l 0 = 132) (n4 : ¬ atB l 0 = 133) (n5 : ¬ atB l 0 = 134) (n6 : ¬ atB l 0 = 135) (n7 : ¬ atB l 0 = 136) : Calls Try.prog 18 #[.slice A n c] w fun e w' => e = .returned (.tuple #[.agg (rv (gotR l)).toArray, .int .i64 (codeTR l)]) ∧ Below w.heap.size w w' := by
  have hs1 := hs.alloc (.cells #[.int .i64 0, .int .i64 0, .int .i64 0, .int .i64 0, .int .i64 0, .int .i64 0, .int .u8 0, .int .u8 0, .int .u8 0, .int .u8 0, .int .u8 0, .int .u8 0, .int .u8 0, .int .u8 0] 28)
  obtain ⟨b0, hb0⟩ : ∃ b : UInt8, l.getD 0 0 = b := ⟨_, rfl⟩
  have k0 := UInt8.toNat_lt b0
  have ha0 : atB l 0 = (b0.toNat : Int) := by unfold atB; rw [hb0]
  rw [ha0] at n0 n1 n2 n3 n4 n5 n6 n7
  have hD : decR l = namedR ⟨(b0.toNat : Int), 0, 0, 0, 0, 0, [0, 0, 0, 0, 0, 0, 0, 0]⟩ := by
    unfold decR namedR
    rw [ha0, if_neg n0, if_neg n1, if_neg n2, if_neg n3, if_neg n4, if_neg (fun h => h.elim n5 n6), if_neg n7]
    simp only [if_neg n0, if_neg n1, if_neg n2, if_neg n3, if_neg n4]
    rw [if_neg (fun h => h.elim n5 n6), if_neg n7]
  have m0 : (((b0.toNat : Int)) == 129) = false := beq_eq_false_iff_ne.2 n0
  have m1 : (((b0.toNat : Int)) == 130) = false := beq_eq_false_iff_ne.2 n1
  have m2 : (((b0.toNat : Int)) == 131) = false := beq_eq_false_iff_ne.2 n2
  have m3 : (((b0.toNat : Int)) == 132) = false := beq_eq_false_iff_ne.2 n3
  have m4 : (((b0.toNat : Int)) == 133) = false := beq_eq_false_iff_ne.2 n4
  have m5 : (((b0.toNat : Int)) == 134) = false := beq_eq_false_iff_ne.2 n5
  have m6 : (((b0.toNat : Int)) == 135) = false := beq_eq_false_iff_ne.2 n6
  have m7 : (((b0.toNat : Int)) == 136) = false := beq_eq_false_iff_ne.2 n7
  replace hD := Lib.hid hD
  replace hl := Lib.hid hl
  replace ha0 := Lib.hid ha0
  clear hb0 n0 n1 n2 n3 n4 n5 n6 n7
  go_enter Try.func18, Try.ntmps18
  try dsimp only [List.append]
  go_wp2_with fail
  refine (at_ok A n c 0 l _ ((b0.toNat : Int)) _ hl.out hs1 rfl ha0.out).mono ?_
  rintro e w' ⟨rfl, rfl⟩
  go_wp2_with (guard_target =~ wpList _ _ _ (Oper.mk _ (Op.load 28 _) _ _ _ _ :: _) _ _; refine wpList_load_arr 14 rfl rfl rfl (arr_snd w _ (rv ⟨(b0.toNat : Int), 0, 0, 0, 0, 0, [0, 0, 0, 0, 0, 0, 0, 0]⟩) _ 28 rfl) (by kernel_rfl) rfl ?_)
  refine (replies_ok ⟨(b0.toNat : Int), 0, 0, 0, 0, 0, [0, 0, 0, 0, 0, 0, 0, 0]⟩ rfl _).mono ?_
  rintro e wa ⟨rfl, hb6⟩
  obtain ⟨hM, hR, hb⟩ := since_two (zs := rv zR) (cs := rv ⟨(b0.toNat : Int), 0, 0, 0, 0, 0, [0, 0, 0, 0, 0, 0, 0, 0]⟩) hb6 rfl rfl
  clear hb6
  rw [← hD.out]
  have hltR := hR.lt
  have h8 := decR_eight l
  have hrl := rv_len (decR l) h8
  replace hrl := Lib.hid hrl
  go_wp2_with (first
    | (guard_target =~ wpList _ _ _ (Oper.mk _ (Op.store 28 _ _) _ _ _ _ :: _) _ _; refine wpList_store_arr (cs' := rv (decR l)) 14 rfl rfl rfl rfl hM (by kernel_rfl) (by simp [rv, vals, zR, z8]) hrl.out (rv_one _) ?_))
  intro wb hM2 ho hbb hsz
  have hR2 := hR.of_block (ho w.heap.size (Nat.ne_of_lt (Nat.lt_succ_self _)))
  have hb2 := hb.trans (hbb.mono (Nat.le_succ _))
  clear hR hM hb ho hbb hsz hltR
  go_wp2_with (guard_target =~ wpList _ _ _ (Oper.mk _ (Op.load 28 _) _ _ _ _ :: _) _ _; refine wpList_load_arr 14 rfl rfl rfl hM2 (by kernel_rfl) hrl.out ?_)
  refine (refPutR_ok (decR l) _ h8).mono ?_
  rintro e wc ⟨v5, rfl, ho5, hb5⟩
  have hM3 := hM2.since hb5
  have hR3 := hR2.since hb5
  have hw3 := hb2.trans (hb5.mono hb2.size)
  clear hM2 hR2 hb2 hb5 hD
  cases hok : okR (decR l) with
  | false =>
    have g := gotR_no (show takeR l = none from by unfold takeR; rw [if_neg (fun e => by rw [hok] at e; exact absurd e.2.1 (by simp))])
    have e5 : codeR (decR l) = 1 ∧ bytesR (decR l) = [] := ⟨if_neg (by simp [hok]), if_neg (by simp [hok])⟩
    rw [e5.2] at ho5
    rw [e5.1]
    obtain ⟨A5, c5, rfl, -⟩ := ho5.seen_at (k := 0) rfl
    replace g := Lib.hid g
    clear ho5 hM3
    go_wp2_with (guard_target =~ wpList _ _ _ (Oper.mk _ (Op.store 28 _ _) _ _ _ _ :: _) _ _; refine wpList_store_arr (cs' := rv zR) 14 rfl rfl rfl rfl hR3 (by kernel_rfl) (rv_len _ zr_eight) (rv_len _ zr_eight) (rv_one _) ?_)
    intro wd hR4 ho hbb hsz
    have hw4 := hw3.trans (hbb.mono (Nat.le_refl _))
    go_wp2
    exact ret_arr_tmp rfl w.heap.size _ _ rfl hR4 Try.underlying28 rfl (by kernel_rfl) rfl ⟨by rw [g.out.1, g.out.2]; rfl, hw4⟩
  | true =>
    rw [(codeR_ok hok).2] at ho5
    rw [(codeR_ok hok).1]
    obtain ⟨k5, hk5⟩ : ∃ k, (replyB (decR l)).length = k := ⟨_, rfl⟩
    obtain ⟨A5, c5, rfl, hs5⟩ := ho5.seen_at hk5
    obtain ⟨s1, hs1⟩ : ∃ s : ByteArray, s = ⟨(replyB (decR l)).toArray⟩ := ⟨_, rfl⟩
    obtain ⟨s2, hs2⟩ : ∃ s : ByteArray, s = ⟨l.toArray⟩ := ⟨_, rfl⟩
    have t1 := hs5.str k5 c5 hk5 s1 hs1
    have t2 := (hs.since hw3).str n c hl.out s2 hs2
    obtain ⟨bN, hbN⟩ : ∃ b, (s1.toList == s2.toList) = b := ⟨_, rfl⟩
    have hbM : (s1.toList != s2.toList) = !bN := by rw [bne, hbN]
    have hcmp : bN = true ↔ replyB (decR l) = l := by
      rw [← hbN, hs1, hs2, ByteArray.toList_eq, ByteArray.toList_eq, beq_iff_eq]
    clear ho5 hs5 hk5 hs1 hs2
    cases bN
    · simp only [Bool.not_false] at hbM
      have g := gotR_no (show takeR l = none from by unfold takeR; rw [if_neg (fun e => by have := hcmp.2 e.2.2; cases this)])
      replace g := Lib.hid g
      clear hcmp hM3
      go_wp2_with (guard_target =~ wpList _ _ _ (Oper.mk _ (Op.store 28 _ _) _ _ _ _ :: _) _ _; refine wpList_store_arr (cs' := rv zR) 14 rfl rfl rfl rfl hR3 (by kernel_rfl) (rv_len _ zr_eight) (rv_len _ zr_eight) (rv_one _) ?_)
      intro wd hR4 ho hbb hsz
      have hw4 := hw3.trans (hbb.mono (Nat.le_refl _))
      go_wp2
      exact ret_arr_tmp rfl w.heap.size _ _ rfl hR4 Try.underlying28 rfl (by kernel_rfl) rfl ⟨by rw [g.out.1, g.out.2]; rfl, hw4⟩
    · simp only [Bool.not_true] at hbM
      have g := got_someR (show takeR l = some (decR l) from by unfold takeR; rw [if_pos ⟨by rw [hl.out]; omega, hok, hcmp.1 rfl⟩])
      replace g := Lib.hid g
      clear hcmp
      go_wp2_with (first
        | (guard_target =~ wpList _ _ _ (Oper.mk _ (Op.load 28 _) _ _ _ _ :: _) _ _; refine wpList_load_arr 14 rfl rfl rfl hM3 (by kernel_rfl) hrl.out ?_)
        | (guard_target =~ wpList _ _ _ (Oper.mk _ (Op.store 28 _ _) _ _ _ _ :: _) _ _; refine wpList_store_arr (cs' := rv (decR l)) 14 rfl rfl rfl rfl hR3 (by kernel_rfl) (rv_len _ zr_eight) hrl.out (rv_one _) ?_))
      intro wd hR4 ho hbb hsz
      have hw4 := hw3.trans (hbb.mono (Nat.le_refl _))
      go_wp2
      exact ret_arr_tmp rfl w.heap.size _ _ rfl hR4 Try.underlying28 rfl (by rw [hrl.out]; kernel_rfl) rfl ⟨by rw [g.out.1, g.out.2]; rfl, hw4⟩
/-- whatever it is handed -/
theorem refTakeR_ok (A : Option Addr) (n c : Nat) (l : List UInt8) (w : World) (hl : l.length = n) (hc : n ≤ c) (hn : n ≤ 1048576) (hs : Seen w A l) : Calls Try.prog 18 #[.slice A n c] w fun e w' => e = .returned (.tuple #[.agg (rv (gotR l)).toArray, .int .i64 (codeTR l)]) ∧ Below w.heap.size w w' := by
  by_cases h9 : 9 < n
  · exact refTakeR_long A n c l w hl hc hn hs h9
  by_cases n0 : atB l 0 = 129
  · exact refTakeR_129 A n c l w hl hc hn hs h9 n0
  by_cases n1 : atB l 0 = 130
  · exact refTakeR_130 A n c l w hl hc hn hs h9 n1
  by_cases n2 : atB l 0 = 131
  · exact refTakeR_131 A n c l w hl hc hn hs h9 n2
  by_cases n3 : atB l 0 = 132
  · exact refTakeR_132 A n c l w hl hc hn hs h9 n3
  by_cases n4 : atB l 0 = 133
  · exact refTakeR_133 A n c l w hl hc hn hs h9 n4
  by_cases n5 : atB l 0 = 134
  · exact refTakeR_134 A n c l w hl hc hn hs h9 n5
  by_cases n6 : atB l 0 = 135
  · exact refTakeR_135 A n c l w hl hc hn hs h9 n6
  by_cases n7 : atB l 0 = 136
  · exact refTakeR_136 A n c l w hl hc hn hs h9 n7
  exact refTakeR_no A n c l w hl hc hn hs h9 n0 n1 n2 n3 n4 n5 n6 n7
end Go.Proofs.Ytmibgmcgicphoaa.msg
