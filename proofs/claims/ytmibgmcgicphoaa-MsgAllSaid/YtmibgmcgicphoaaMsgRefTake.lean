/-
  CONTRACT OF msg's reference: Take. (Written by program: wip/tools/gen_msg_reftake.py.)
-/
import Derived.Test.YtmibgmcgicphoaaMsgRefPutB
import Derived.Test.YtmibgmcgicphoaaMsgFit
namespace Go.Proofs.Ytmibgmcgicphoaa.msg
open Go.RowKit Go.Proofs.Ytmibgmcgicphoaa.octets Go.Proofs.Ytmibgmcgicphoaa.pack
set_option linter.unusedVariables false
set_option linter.unusedSimpArgs false

/-- two results, the first one a struct in a variable -/
theorem ret_arr_tmp {P : Program} {fn : Func} {R : Ending → World → Prop} {a : Act} {w : World} {p u : Tmp} {ty : TypeId} (h : fn.results = #[.cell p ty, .tmp u]) (g : Nat) (cs : List Value) (d : TypeDesc) (hp : a.tmps.getD p undef = .pointer (some ⟨g, 0, none⟩)) (hA : Arr w g cs)
    (hu : P.underlying ty = some d) (hd : d.isRow = true) (hi : (P.info? ty).map (·.size) = some cs.length) (hdf : a.defers = []) (hR : R (.returned (.tuple #[.agg cs.toArray, a.tmps.getD u undef])) w) : bodyPost P fn R .ret a w := by
  refine bodyPost_ret ?_ hdf hR
  rw [results_cell_tmp h, hp]
  have := run_loadVar_mid (P := P) w g 0 ty cs d hA.range hu hd hi
  simp [asAddr, Result.andThen, this]
theorem got_some' {l : List UInt8} {z : M} (h : takeM l = some z) : codeT l = 0 ∧ gotM l = z := by unfold codeT gotM; rw [h]; exact ⟨rfl, rfl⟩
theorem long_none {l : List UInt8} (h : 16 < l.length) : takeM l = none := by
  unfold takeM
  rw [if_neg (fun e => by omega)]

set_option maxRecDepth 100000 in
set_option maxHeartbeats 8000000 in
theorem refTake_ok (A : Option Addr) (n c : Nat) (l : List UInt8) (w : World) (hl : l.length = n) (hc : n ≤ c) (hn : n ≤ 1048576) (hs : Seen w A l) :
    Calls Try.prog 14 #[.slice A n c] w fun e w' => e = .returned (.tuple #[.agg (mv (gotM l)).toArray, .int .i64 (codeT l)]) ∧ Below w.heap.size w w' := by
  by_cases h16 : 16 < n
  · have g := got_no (long_none (l := l) (by omega))
    rw [g.1, g.2]
    have hA := new_zm w 24
    have hw := below_new w (.cells #[.int .i64 0, .int .i64 0, .int .i64 0, .int .i64 0, .int .i64 0, .int .i64 0, .int .i64 0, .bool false, .int .i64 0, .int .i64 0, .int .i64 0, .int .i64 0] 24)
    clear hs hl g
    go_enter Try.func14, Try.ntmps14
    go_wp2
    exact ret_arr_tmp rfl w.heap.size _ _ rfl hA Try.underlying24 rfl (by kernel_rfl) rfl ⟨rfl, hw⟩
  have hs1 := hs.alloc (.cells #[.int .i64 0, .int .i64 0, .int .i64 0, .int .i64 0, .int .i64 0, .int .i64 0, .int .i64 0, .bool false, .int .i64 0, .int .i64 0, .int .i64 0, .int .i64 0] 24)
  replace hl := Lib.hid hl
  obtain ⟨b0, hb0⟩ : ∃ b : UInt8, l.getD 0 0 = b := ⟨_, rfl⟩
  have k0 := UInt8.toNat_lt b0
  have ha0 : atB l 0 = (b0.toNat : Int) := by unfold atB; rw [hb0]
  obtain ⟨b1, hb1⟩ : ∃ b : UInt8, l.getD 1 0 = b := ⟨_, rfl⟩
  have k1 := UInt8.toNat_lt b1
  have ha1 : atB l 1 = (b1.toNat : Int) := by unfold atB; rw [hb1]
  obtain ⟨b2, hb2⟩ : ∃ b : UInt8, l.getD 2 0 = b := ⟨_, rfl⟩
  have k2 := UInt8.toNat_lt b2
  have ha2 : atB l 2 = (b2.toNat : Int) := by unfold atB; rw [hb2]
  obtain ⟨b3, hb3⟩ : ∃ b : UInt8, l.getD 3 0 = b := ⟨_, rfl⟩
  have k3 := UInt8.toNat_lt b3
  have ha3 : atB l 3 = (b3.toNat : Int) := by unfold atB; rw [hb3]
  obtain ⟨b4, hb4⟩ : ∃ b : UInt8, l.getD 4 0 = b := ⟨_, rfl⟩
  have k4 := UInt8.toNat_lt b4
  have ha4 : atB l 4 = (b4.toNat : Int) := by unfold atB; rw [hb4]
  obtain ⟨b5, hb5⟩ : ∃ b : UInt8, l.getD 5 0 = b := ⟨_, rfl⟩
  have k5 := UInt8.toNat_lt b5
  have ha5 : atB l 5 = (b5.toNat : Int) := by unfold atB; rw [hb5]
  obtain ⟨b6, hb6⟩ : ∃ b : UInt8, l.getD 6 0 = b := ⟨_, rfl⟩
  have k6 := UInt8.toNat_lt b6
  have ha6 : atB l 6 = (b6.toNat : Int) := by unfold atB; rw [hb6]
  obtain ⟨b7, hb7⟩ : ∃ b : UInt8, l.getD 7 0 = b := ⟨_, rfl⟩
  have k7 := UInt8.toNat_lt b7
  have ha7 : atB l 7 = (b7.toNat : Int) := by unfold atB; rw [hb7]
  obtain ⟨b8, hb8⟩ : ∃ b : UInt8, l.getD 8 0 = b := ⟨_, rfl⟩
  have k8 := UInt8.toNat_lt b8
  have ha8 : atB l 8 = (b8.toNat : Int) := by unfold atB; rw [hb8]
  obtain ⟨b9, hb9⟩ : ∃ b : UInt8, l.getD 9 0 = b := ⟨_, rfl⟩
  have k9 := UInt8.toNat_lt b9
  have ha9 : atB l 9 = (b9.toNat : Int) := by unfold atB; rw [hb9]
  obtain ⟨b10, hb10⟩ : ∃ b : UInt8, l.getD 10 0 = b := ⟨_, rfl⟩
  have k10 := UInt8.toNat_lt b10
  have ha10 : atB l 10 = (b10.toNat : Int) := by unfold atB; rw [hb10]
  obtain ⟨b11, hb11⟩ : ∃ b : UInt8, l.getD 11 0 = b := ⟨_, rfl⟩
  have k11 := UInt8.toNat_lt b11
  have ha11 : atB l 11 = (b11.toNat : Int) := by unfold atB; rw [hb11]
  obtain ⟨b12, hb12⟩ : ∃ b : UInt8, l.getD 12 0 = b := ⟨_, rfl⟩
  have k12 := UInt8.toNat_lt b12
  have ha12 : atB l 12 = (b12.toNat : Int) := by unfold atB; rw [hb12]
  obtain ⟨b13, hb13⟩ : ∃ b : UInt8, l.getD 13 0 = b := ⟨_, rfl⟩
  have k13 := UInt8.toNat_lt b13
  have ha13 : atB l 13 = (b13.toNat : Int) := by unfold atB; rw [hb13]
  obtain ⟨b14, hb14⟩ : ∃ b : UInt8, l.getD 14 0 = b := ⟨_, rfl⟩
  have k14 := UInt8.toNat_lt b14
  have ha14 : atB l 14 = (b14.toNat : Int) := by unfold atB; rw [hb14]
  obtain ⟨b15, hb15⟩ : ∃ b : UInt8, l.getD 15 0 = b := ⟨_, rfl⟩
  have k15 := UInt8.toNat_lt b15
  have ha15 : atB l 15 = (b15.toNat : Int) := by unfold atB; rw [hb15]
  have hdec : decM l = namedM ⟨b0.toNat, 16777216 * b1.toNat + 65536 * b2.toNat + 256 * b3.toNat + b4.toNat, if (b0.toNat : Int) = 1 ∨ (b0.toNat : Int) = 2 then b1.toNat else 0, b5.toNat, 256 * b5.toNat + b6.toNat, b7.toNat, b7.toNat, (b5.toNat : Int) == 1,
      signed (256 * b8.toNat + b9.toNat), signed (256 * b10.toNat + b11.toNat), signed (256 * b12.toNat + b13.toNat), signed (256 * b14.toNat + b15.toNat)⟩ := by
    unfold decM two
    rw [ha0, ha1, ha2, ha3, ha4, ha5, ha6, ha7, hb8, hb9, hb10, hb11, hb12, hb13, hb14, hb15]
  replace hdec := Lib.hid hdec
  replace ha0 := Lib.hid ha0
  clear hb0
  replace ha1 := Lib.hid ha1
  clear hb1
  replace ha2 := Lib.hid ha2
  clear hb2
  replace ha3 := Lib.hid ha3
  clear hb3
  replace ha4 := Lib.hid ha4
  clear hb4
  replace ha5 := Lib.hid ha5
  clear hb5
  replace ha6 := Lib.hid ha6
  clear hb6
  replace ha7 := Lib.hid ha7
  clear hb7
  replace ha8 := Lib.hid ha8
  clear hb8
  replace ha9 := Lib.hid ha9
  clear hb9
  replace ha10 := Lib.hid ha10
  clear hb10
  replace ha11 := Lib.hid ha11
  clear hb11
  replace ha12 := Lib.hid ha12
  clear hb12
  replace ha13 := Lib.hid ha13
  clear hb13
  replace ha14 := Lib.hid ha14
  clear hb14
  replace ha15 := Lib.hid ha15
  clear hb15
  go_enter Try.func14, Try.ntmps14
  try dsimp only [List.append]
  go_wp2_with fail
  refine (at_ok A n c 0 l _ (b0.toNat : Int) _ hl.out hs1 rfl ha0.out).mono ?_
  rintro e w' ⟨rfl, rfl⟩
  go_wp2_with fail
  refine (at_ok A n c 1 l _ (b1.toNat : Int) _ hl.out hs1 rfl ha1.out).mono ?_
  rintro e w' ⟨rfl, rfl⟩
  go_wp2_with fail
  refine (at_ok A n c 2 l _ (b2.toNat : Int) _ hl.out hs1 rfl ha2.out).mono ?_
  rintro e w' ⟨rfl, rfl⟩
  go_wp2_with fail
  refine (at_ok A n c 3 l _ (b3.toNat : Int) _ hl.out hs1 rfl ha3.out).mono ?_
  rintro e w' ⟨rfl, rfl⟩
  go_wp2_with fail
  refine (at_ok A n c 4 l _ (b4.toNat : Int) _ hl.out hs1 rfl ha4.out).mono ?_
  rintro e w' ⟨rfl, rfl⟩
  have three : (((b0.toNat : Int) == 1) = true ∧ (((b0.toNat : Int) = 1 ∨ (b0.toNat : Int) = 2))) ∨ (((b0.toNat : Int) == 1) = false ∧ ((b0.toNat : Int) == 2) = true ∧ ((b0.toNat : Int) = 1 ∨ (b0.toNat : Int) = 2)) ∨ (((b0.toNat : Int) == 1) = false ∧ ((b0.toNat : Int) == 2) = false ∧ ¬ ((b0.toNat : Int) = 1 ∨ (b0.toNat : Int) = 2)) := by
    by_cases h1 : (b0.toNat : Int) = 1
    · exact .inl ⟨beq_iff_eq.2 h1, .inl h1⟩
    · by_cases h2 : (b0.toNat : Int) = 2
      · exact .inr (.inl ⟨beq_eq_false_iff_ne.2 h1, beq_iff_eq.2 h2, .inr h2⟩)
      · exact .inr (.inr ⟨beq_eq_false_iff_ne.2 h1, beq_eq_false_iff_ne.2 h2, fun h => h.elim h1 h2⟩)
  rcases three with ⟨e1, hk⟩ | ⟨e1, e2, hk⟩ | ⟨e1, e2, hk⟩
  · have hD := hdec.out
    rw [if_pos hk] at hD
    replace hD := Lib.hid hD
    clear hdec hk
    go_wp2_with fail
    refine (at_ok A n c 1 l _ (b1.toNat : Int) _ hl.out (hs1.alloc _) rfl ha1.out).mono ?_
    rintro e w' ⟨rfl, rfl⟩
    go_wp2_with fail
    refine (at_ok A n c 5 l _ (b5.toNat : Int) _ hl.out (hs1.alloc _) rfl ha5.out).mono ?_
    rintro e w' ⟨rfl, rfl⟩
    go_wp2_with fail
    refine (at_ok A n c 5 l _ (b5.toNat : Int) _ hl.out (hs1.alloc _) rfl ha5.out).mono ?_
    rintro e w' ⟨rfl, rfl⟩
    go_wp2_with fail
    refine (at_ok A n c 5 l _ (b5.toNat : Int) _ hl.out (hs1.alloc _) rfl ha5.out).mono ?_
    rintro e w' ⟨rfl, rfl⟩
    go_wp2_with fail
    refine (at_ok A n c 6 l _ (b6.toNat : Int) _ hl.out (hs1.alloc _) rfl ha6.out).mono ?_
    rintro e w' ⟨rfl, rfl⟩
    go_wp2_with fail
    refine (at_ok A n c 7 l _ (b7.toNat : Int) _ hl.out (hs1.alloc _) rfl ha7.out).mono ?_
    rintro e w' ⟨rfl, rfl⟩
    go_wp2_with fail
    refine (at_ok A n c 7 l _ (b7.toNat : Int) _ hl.out (hs1.alloc _) rfl ha7.out).mono ?_
    rintro e w' ⟨rfl, rfl⟩
    go_wp2
    go_loopw [5] (fun t W => ∃ (i : Nat) (y0 y1 y2 y3 : Int), t = .int .i64 i ∧ Arr W w.heap.size (mv zM) ∧ Arr W (w.heap.size + 1) (mv ⟨(b0.toNat : Int), (16777216 * (b1.toNat : Int) + 65536 * b2.toNat + 256 * b3.toNat + b4.toNat), (b1.toNat : Int), (b5.toNat : Int), (256 * (b5.toNat : Int) + b6.toNat), (b7.toNat : Int), (b7.toNat : Int), ((b5.toNat : Int) == 1), y0, y1, y2, y3⟩) ∧ Below w.heap.size w W ∧ ((i = 0 ∧ y0 = 0 ∧ y1 = 0 ∧ y2 = 0 ∧ y3 = 0) ∨ (i = 1 ∧ y0 = signed (256 * b8.toNat + b9.toNat) ∧ y1 = 0 ∧ y2 = 0 ∧ y3 = 0) ∨ (i = 2 ∧ y0 = signed (256 * b8.toNat + b9.toNat) ∧ y1 = signed (256 * b10.toNat + b11.toNat) ∧ y2 = 0 ∧ y3 = 0) ∨ (i = 3 ∧ y0 = signed (256 * b8.toNat + b9.toNat) ∧ y1 = signed (256 * b10.toNat + b11.toNat) ∧ y2 = signed (256 * b12.toNat + b13.toNat) ∧ y3 = 0) ∨ (i = 4 ∧ y0 = signed (256 * b8.toNat + b9.toNat) ∧ y1 = signed (256 * b10.toNat + b11.toNat) ∧ y2 = signed (256 * b12.toNat + b13.toNat) ∧ y3 = signed (256 * b14.toNat + b15.toNat)))) (fun t _ => 4 - (intOf t).toNat)
    case atStart => exact ⟨0, 0, 0, 0, 0, rfl, box_cells w (mv zM) _ 24 _ rfl, arr_snd w _ _ _ 24 rfl, below2 w _ _, .inl ⟨rfl, rfl, rfl, rfl, rfl⟩⟩
    case round =>
      obtain ⟨i, y0, y1, y2, y3, rfl, hR, hM, hb, ⟨rfl, rfl, rfl, rfl, rfl⟩ | ⟨rfl, rfl, rfl, rfl, rfl⟩ | ⟨rfl, rfl, rfl, rfl, rfl⟩ | ⟨rfl, rfl, rfl, rfl, rfl⟩ | ⟨rfl, rfl, rfl, rfl, rfl⟩⟩ := hrel
      · simp only [show ((0 : Nat) : Int) = 0 from rfl]
        have hsw := hs.since hb
        go_wp2_with fail
        refine (at_ok A n c 8 l _ (b8.toNat : Int) _ hl.out hsw rfl ha8.out).mono ?_
        rintro e w' ⟨rfl, rfl⟩
        go_wp2_with fail
        refine (at_ok A n c 9 l _ (b9.toNat : Int) _ hl.out hsw rfl ha9.out).mono ?_
        rintro e w' ⟨rfl, rfl⟩
        have hL := Held.lit wr [b8, b9] #[.int .u8 (b8.toNat : Int), .int .u8 (b9.toNat : Int)] rfl (by simp [maxLen])
        go_wp2_with fail
        refine (rtakeInt_ok wr.heap.size 2 b8 b9 _ hL).mono ?_
        rintro e wa ⟨rfl, hb6⟩
        have hl0 := below_new wr (.cells #[.int .u8 (b8.toNat : Int), .int .u8 (b9.toNat : Int)] 5)
        have hb7 := hl0.trans (hb6.mono hl0.size)
        have hR := hR.since hb7
        have hM := hM.since hb7
        have hb := hb.trans (hb7.mono hb.size)
        have hcl : wa.cell? ⟨w.heap.size + 1, 8, none⟩ = some (.int .i64 0) := hM.cell rfl
        have hfr := hM.frozen 8
        have hM2 : Arr (wa.setCell ⟨w.heap.size + 1, 8, none⟩ (.int .i64 (signed (256 * b8.toNat + b9.toNat)))) (w.heap.size + 1) (mv ⟨(b0.toNat : Int), (16777216 * (b1.toNat : Int) + 65536 * b2.toNat + 256 * b3.toNat + b4.toNat), (b1.toNat : Int), (b5.toNat : Int), (256 * (b5.toNat : Int) + b6.toNat), (b7.toNat : Int), (b7.toNat : Int), ((b5.toNat : Int) == 1), signed (256 * b8.toNat + b9.toNat), 0, 0, 0⟩) := hM.set 8 _
        have hR2 := hR.other (a := ⟨w.heap.size + 1, 8, none⟩) (Nat.ne_of_lt (Nat.lt_succ_self _)) (.int .i64 (signed (256 * b8.toNat + b9.toNat)))
        have hb8 := hb.setCell (p := ⟨w.heap.size + 1, 8, none⟩) (Nat.le_succ _) (.int .i64 (signed (256 * b8.toNat + b9.toNat)))
        clear hL hl0 hb6 hb7 hR hM hb hsw
        go_wp2
        go_roundw
        case rel => exact ⟨1, _, _, _, _, rfl, hR2, hM2, hb8, .inr (.inl ⟨rfl, rfl, rfl, rfl, rfl⟩)⟩
        case measure => simp [intOf]
      · simp only [show ((1 : Nat) : Int) = 1 from rfl]
        have hsw := hs.since hb
        go_wp2_with fail
        refine (at_ok A n c 10 l _ (b10.toNat : Int) _ hl.out hsw rfl ha10.out).mono ?_
        rintro e w' ⟨rfl, rfl⟩
        go_wp2_with fail
        refine (at_ok A n c 11 l _ (b11.toNat : Int) _ hl.out hsw rfl ha11.out).mono ?_
        rintro e w' ⟨rfl, rfl⟩
        have hL := Held.lit wr [b10, b11] #[.int .u8 (b10.toNat : Int), .int .u8 (b11.toNat : Int)] rfl (by simp [maxLen])
        go_wp2_with fail
        refine (rtakeInt_ok wr.heap.size 2 b10 b11 _ hL).mono ?_
        rintro e wa ⟨rfl, hb6⟩
        have hl0 := below_new wr (.cells #[.int .u8 (b10.toNat : Int), .int .u8 (b11.toNat : Int)] 5)
        have hb7 := hl0.trans (hb6.mono hl0.size)
        have hR := hR.since hb7
        have hM := hM.since hb7
        have hb := hb.trans (hb7.mono hb.size)
        have hcl : wa.cell? ⟨w.heap.size + 1, 9, none⟩ = some (.int .i64 0) := hM.cell rfl
        have hfr := hM.frozen 9
        have hM2 : Arr (wa.setCell ⟨w.heap.size + 1, 9, none⟩ (.int .i64 (signed (256 * b10.toNat + b11.toNat)))) (w.heap.size + 1) (mv ⟨(b0.toNat : Int), (16777216 * (b1.toNat : Int) + 65536 * b2.toNat + 256 * b3.toNat + b4.toNat), (b1.toNat : Int), (b5.toNat : Int), (256 * (b5.toNat : Int) + b6.toNat), (b7.toNat : Int), (b7.toNat : Int), ((b5.toNat : Int) == 1), signed (256 * b8.toNat + b9.toNat), signed (256 * b10.toNat + b11.toNat), 0, 0⟩) := hM.set 9 _
        have hR2 := hR.other (a := ⟨w.heap.size + 1, 9, none⟩) (Nat.ne_of_lt (Nat.lt_succ_self _)) (.int .i64 (signed (256 * b10.toNat + b11.toNat)))
        have hb8 := hb.setCell (p := ⟨w.heap.size + 1, 9, none⟩) (Nat.le_succ _) (.int .i64 (signed (256 * b10.toNat + b11.toNat)))
        clear hL hl0 hb6 hb7 hR hM hb hsw
        go_wp2
        go_roundw
        case rel => exact ⟨2, _, _, _, _, rfl, hR2, hM2, hb8, .inr (.inr (.inl ⟨rfl, rfl, rfl, rfl, rfl⟩))⟩
        case measure => simp [intOf]
      · simp only [show ((2 : Nat) : Int) = 2 from rfl]
        have hsw := hs.since hb
        go_wp2_with fail
        refine (at_ok A n c 12 l _ (b12.toNat : Int) _ hl.out hsw rfl ha12.out).mono ?_
        rintro e w' ⟨rfl, rfl⟩
        go_wp2_with fail
        refine (at_ok A n c 13 l _ (b13.toNat : Int) _ hl.out hsw rfl ha13.out).mono ?_
        rintro e w' ⟨rfl, rfl⟩
        have hL := Held.lit wr [b12, b13] #[.int .u8 (b12.toNat : Int), .int .u8 (b13.toNat : Int)] rfl (by simp [maxLen])
        go_wp2_with fail
        refine (rtakeInt_ok wr.heap.size 2 b12 b13 _ hL).mono ?_
        rintro e wa ⟨rfl, hb6⟩
        have hl0 := below_new wr (.cells #[.int .u8 (b12.toNat : Int), .int .u8 (b13.toNat : Int)] 5)
        have hb7 := hl0.trans (hb6.mono hl0.size)
        have hR := hR.since hb7
        have hM := hM.since hb7
        have hb := hb.trans (hb7.mono hb.size)
        have hcl : wa.cell? ⟨w.heap.size + 1, 10, none⟩ = some (.int .i64 0) := hM.cell rfl
        have hfr := hM.frozen 10
        have hM2 : Arr (wa.setCell ⟨w.heap.size + 1, 10, none⟩ (.int .i64 (signed (256 * b12.toNat + b13.toNat)))) (w.heap.size + 1) (mv ⟨(b0.toNat : Int), (16777216 * (b1.toNat : Int) + 65536 * b2.toNat + 256 * b3.toNat + b4.toNat), (b1.toNat : Int), (b5.toNat : Int), (256 * (b5.toNat : Int) + b6.toNat), (b7.toNat : Int), (b7.toNat : Int), ((b5.toNat : Int) == 1), signed (256 * b8.toNat + b9.toNat), signed (256 * b10.toNat + b11.toNat), signed (256 * b12.toNat + b13.toNat), 0⟩) := hM.set 10 _
        have hR2 := hR.other (a := ⟨w.heap.size + 1, 10, none⟩) (Nat.ne_of_lt (Nat.lt_succ_self _)) (.int .i64 (signed (256 * b12.toNat + b13.toNat)))
        have hb8 := hb.setCell (p := ⟨w.heap.size + 1, 10, none⟩) (Nat.le_succ _) (.int .i64 (signed (256 * b12.toNat + b13.toNat)))
        clear hL hl0 hb6 hb7 hR hM hb hsw
        go_wp2
        go_roundw
        case rel => exact ⟨3, _, _, _, _, rfl, hR2, hM2, hb8, .inr (.inr (.inr (.inl ⟨rfl, rfl, rfl, rfl, rfl⟩)))⟩
        case measure => simp [intOf]
      · simp only [show ((3 : Nat) : Int) = 3 from rfl]
        have hsw := hs.since hb
        go_wp2_with fail
        refine (at_ok A n c 14 l _ (b14.toNat : Int) _ hl.out hsw rfl ha14.out).mono ?_
        rintro e w' ⟨rfl, rfl⟩
        go_wp2_with fail
        refine (at_ok A n c 15 l _ (b15.toNat : Int) _ hl.out hsw rfl ha15.out).mono ?_
        rintro e w' ⟨rfl, rfl⟩
        have hL := Held.lit wr [b14, b15] #[.int .u8 (b14.toNat : Int), .int .u8 (b15.toNat : Int)] rfl (by simp [maxLen])
        go_wp2_with fail
        refine (rtakeInt_ok wr.heap.size 2 b14 b15 _ hL).mono ?_
        rintro e wa ⟨rfl, hb6⟩
        have hl0 := below_new wr (.cells #[.int .u8 (b14.toNat : Int), .int .u8 (b15.toNat : Int)] 5)
        have hb7 := hl0.trans (hb6.mono hl0.size)
        have hR := hR.since hb7
        have hM := hM.since hb7
        have hb := hb.trans (hb7.mono hb.size)
        have hcl : wa.cell? ⟨w.heap.size + 1, 11, none⟩ = some (.int .i64 0) := hM.cell rfl
        have hfr := hM.frozen 11
        have hM2 : Arr (wa.setCell ⟨w.heap.size + 1, 11, none⟩ (.int .i64 (signed (256 * b14.toNat + b15.toNat)))) (w.heap.size + 1) (mv ⟨(b0.toNat : Int), (16777216 * (b1.toNat : Int) + 65536 * b2.toNat + 256 * b3.toNat + b4.toNat), (b1.toNat : Int), (b5.toNat : Int), (256 * (b5.toNat : Int) + b6.toNat), (b7.toNat : Int), (b7.toNat : Int), ((b5.toNat : Int) == 1), signed (256 * b8.toNat + b9.toNat), signed (256 * b10.toNat + b11.toNat), signed (256 * b12.toNat + b13.toNat), signed (256 * b14.toNat + b15.toNat)⟩) := hM.set 11 _
        have hR2 := hR.other (a := ⟨w.heap.size + 1, 11, none⟩) (Nat.ne_of_lt (Nat.lt_succ_self _)) (.int .i64 (signed (256 * b14.toNat + b15.toNat)))
        have hb8 := hb.setCell (p := ⟨w.heap.size + 1, 11, none⟩) (Nat.le_succ _) (.int .i64 (signed (256 * b14.toNat + b15.toNat)))
        clear hL hl0 hb6 hb7 hR hM hb hsw
        go_wp2
        go_roundw
        case rel => exact ⟨4, _, _, _, _, rfl, hR2, hM2, hb8, .inr (.inr (.inr (.inr (⟨rfl, rfl, rfl, rfl, rfl⟩))))⟩
        case measure => simp [intOf]
      · simp only [show ((4 : Nat) : Int) = 4 from rfl]
        go_wp2_with (guard_target =~ wpList _ _ _ (Oper.mk _ (Op.load 24 _) _ _ _ _ :: _) _ _; refine wpList_load_arr 12 rfl rfl rfl hM (by kernel_rfl) rfl ?_)
        refine (named_ok _ _).mono ?_
        rintro e wa ⟨rfl, hb6⟩
        rw [← hD.out]
        have hR := hR.since hb6
        have hM := hM.since hb6
        have hb := hb.trans (hb6.mono hb.size)
        clear hb6
        have hltR := hR.lt
        go_wp2_with (first
          | (guard_target =~ wpList _ _ _ (Oper.mk _ (Op.store 24 _ _) _ _ _ _ :: _) _ _; refine wpList_store_arr (cs' := mv (decM l)) 12 rfl rfl rfl rfl hM (by kernel_rfl) rfl rfl (mv_one _) ?_))
        intro wb hM2 ho hbb hsz
        have hR2 := hR.of_block (ho w.heap.size (Nat.ne_of_lt (Nat.lt_succ_self _)))
        have hb2 := hb.trans (hbb.mono (Nat.le_succ _))
        clear hR hM hb ho hbb hsz hltR
        go_wp2_with (guard_target =~ wpList _ _ _ (Oper.mk _ (Op.load 24 _) _ _ _ _ :: _) _ _; refine wpList_load_arr 12 rfl rfl rfl hM2 (by kernel_rfl) rfl ?_)
        refine (refPut_ok (decM l) _).mono ?_
        rintro e wc ⟨v5, rfl, ho5, hb5⟩
        have hM3 := hM2.since hb5
        have hR3 := hR2.since hb5
        have hw3 := hb2.trans (hb5.mono hb2.size)
        clear hM2 hR2 hb2 hb5 hD
        cases hok : okM (decM l) with
        | false =>
          have g := got_no (show takeM l = none from by unfold takeM; rw [if_neg (fun e => by rw [hok] at e; exact absurd e.2.1 (by simp))])
          rw [(code_no hok).2] at ho5
          rw [(code_no hok).1]
          obtain ⟨A5, c5, rfl, -⟩ := ho5.seen_at (k := 0) rfl
          replace g := Lib.hid g
          clear ho5 hM3
          go_wp2_with (guard_target =~ wpList _ _ _ (Oper.mk _ (Op.store 24 _ _) _ _ _ _ :: _) _ _; refine wpList_store_arr (cs' := mv zM) 12 rfl rfl rfl rfl hR3 (by kernel_rfl) rfl rfl (mv_one _) ?_)
          intro wd hR4 ho hbb hsz
          have hw4 := hw3.trans (hbb.mono (Nat.le_refl _))
          go_wp2
          exact ret_arr_tmp rfl w.heap.size _ _ rfl hR4 Try.underlying24 rfl (by kernel_rfl) rfl ⟨by rw [g.out.1, g.out.2]; rfl, hw4⟩
        | true =>
          rw [(code_ok hok).2] at ho5
          rw [(code_ok hok).1]
          obtain ⟨k5, hk5⟩ : ∃ k, (msgB (decM l)).length = k := ⟨_, rfl⟩
          obtain ⟨A5, c5, rfl, hs5⟩ := ho5.seen_at hk5
          obtain ⟨s1, hs1⟩ : ∃ s : ByteArray, s = ⟨(msgB (decM l)).toArray⟩ := ⟨_, rfl⟩
          obtain ⟨s2, hs2⟩ : ∃ s : ByteArray, s = ⟨l.toArray⟩ := ⟨_, rfl⟩
          have t1 := hs5.str k5 c5 hk5 s1 hs1
          have t2 := (hs.since hw3).str n c hl.out s2 hs2
          obtain ⟨bN, hbN⟩ : ∃ b, (s1.toList == s2.toList) = b := ⟨_, rfl⟩
          have hbM : (s1.toList != s2.toList) = !bN := by rw [bne, hbN]
          have hcmp : bN = true ↔ msgB (decM l) = l := by
            rw [← hbN, hs1, hs2, ByteArray.toList_eq, ByteArray.toList_eq, beq_iff_eq]
          clear ho5 hs5 hk5 hs1 hs2
          cases bN
          · simp only [Bool.not_false] at hbM
            have g := got_no (show takeM l = none from by unfold takeM; rw [if_neg (fun e => by have := hcmp.2 e.2.2; cases this)])
            replace g := Lib.hid g
            clear hcmp hM3
            go_wp2_with (guard_target =~ wpList _ _ _ (Oper.mk _ (Op.store 24 _ _) _ _ _ _ :: _) _ _; refine wpList_store_arr (cs' := mv zM) 12 rfl rfl rfl rfl hR3 (by kernel_rfl) rfl rfl (mv_one _) ?_)
            intro wd hR4 ho hbb hsz
            have hw4 := hw3.trans (hbb.mono (Nat.le_refl _))
            go_wp2
            exact ret_arr_tmp rfl w.heap.size _ _ rfl hR4 Try.underlying24 rfl (by kernel_rfl) rfl ⟨by rw [g.out.1, g.out.2]; rfl, hw4⟩
          · simp only [Bool.not_true] at hbM
            have g := got_some' (show takeM l = some (decM l) from by unfold takeM; rw [if_pos ⟨by rw [hl.out]; omega, hok, hcmp.1 rfl⟩])
            replace g := Lib.hid g
            clear hcmp
            go_wp2_with (first
              | (guard_target =~ wpList _ _ _ (Oper.mk _ (Op.load 24 _) _ _ _ _ :: _) _ _; refine wpList_load_arr 12 rfl rfl rfl hM3 (by kernel_rfl) rfl ?_)
              | (guard_target =~ wpList _ _ _ (Oper.mk _ (Op.store 24 _ _) _ _ _ _ :: _) _ _; refine wpList_store_arr (cs' := mv (decM l)) 12 rfl rfl rfl rfl hR3 (by kernel_rfl) rfl rfl (mv_one _) ?_))
            intro wd hR4 ho hbb hsz
            have hw4 := hw3.trans (hbb.mono (Nat.le_refl _))
            go_wp2
            exact ret_arr_tmp rfl w.heap.size _ _ rfl hR4 Try.underlying24 rfl (by kernel_rfl) rfl ⟨by rw [g.out.1, g.out.2]; rfl, hw4⟩
  · have hD := hdec.out
    rw [if_pos hk] at hD
    replace hD := Lib.hid hD
    clear hdec hk
    go_wp2_with fail
    refine (at_ok A n c 1 l _ (b1.toNat : Int) _ hl.out (hs1.alloc _) rfl ha1.out).mono ?_
    rintro e w' ⟨rfl, rfl⟩
    go_wp2_with fail
    refine (at_ok A n c 5 l _ (b5.toNat : Int) _ hl.out (hs1.alloc _) rfl ha5.out).mono ?_
    rintro e w' ⟨rfl, rfl⟩
    go_wp2_with fail
    refine (at_ok A n c 5 l _ (b5.toNat : Int) _ hl.out (hs1.alloc _) rfl ha5.out).mono ?_
    rintro e w' ⟨rfl, rfl⟩
    go_wp2_with fail
    refine (at_ok A n c 5 l _ (b5.toNat : Int) _ hl.out (hs1.alloc _) rfl ha5.out).mono ?_
    rintro e w' ⟨rfl, rfl⟩
    go_wp2_with fail
    refine (at_ok A n c 6 l _ (b6.toNat : Int) _ hl.out (hs1.alloc _) rfl ha6.out).mono ?_
    rintro e w' ⟨rfl, rfl⟩
    go_wp2_with fail
    refine (at_ok A n c 7 l _ (b7.toNat : Int) _ hl.out (hs1.alloc _) rfl ha7.out).mono ?_
    rintro e w' ⟨rfl, rfl⟩
    go_wp2_with fail
    refine (at_ok A n c 7 l _ (b7.toNat : Int) _ hl.out (hs1.alloc _) rfl ha7.out).mono ?_
    rintro e w' ⟨rfl, rfl⟩
    go_wp2
    go_loopw [5] (fun t W => ∃ (i : Nat) (y0 y1 y2 y3 : Int), t = .int .i64 i ∧ Arr W w.heap.size (mv zM) ∧ Arr W (w.heap.size + 1) (mv ⟨(b0.toNat : Int), (16777216 * (b1.toNat : Int) + 65536 * b2.toNat + 256 * b3.toNat + b4.toNat), (b1.toNat : Int), (b5.toNat : Int), (256 * (b5.toNat : Int) + b6.toNat), (b7.toNat : Int), (b7.toNat : Int), ((b5.toNat : Int) == 1), y0, y1, y2, y3⟩) ∧ Below w.heap.size w W ∧ ((i = 0 ∧ y0 = 0 ∧ y1 = 0 ∧ y2 = 0 ∧ y3 = 0) ∨ (i = 1 ∧ y0 = signed (256 * b8.toNat + b9.toNat) ∧ y1 = 0 ∧ y2 = 0 ∧ y3 = 0) ∨ (i = 2 ∧ y0 = signed (256 * b8.toNat + b9.toNat) ∧ y1 = signed (256 * b10.toNat + b11.toNat) ∧ y2 = 0 ∧ y3 = 0) ∨ (i = 3 ∧ y0 = signed (256 * b8.toNat + b9.toNat) ∧ y1 = signed (256 * b10.toNat + b11.toNat) ∧ y2 = signed (256 * b12.toNat + b13.toNat) ∧ y3 = 0) ∨ (i = 4 ∧ y0 = signed (256 * b8.toNat + b9.toNat) ∧ y1 = signed (256 * b10.toNat + b11.toNat) ∧ y2 = signed (256 * b12.toNat + b13.toNat) ∧ y3 = signed (256 * b14.toNat + b15.toNat)))) (fun t _ => 4 - (intOf t).toNat)
    case atStart => exact ⟨0, 0, 0, 0, 0, rfl, box_cells w (mv zM) _ 24 _ rfl, arr_snd w _ _ _ 24 rfl, below2 w _ _, .inl ⟨rfl, rfl, rfl, rfl, rfl⟩⟩
    case round =>
      obtain ⟨i, y0, y1, y2, y3, rfl, hR, hM, hb, ⟨rfl, rfl, rfl, rfl, rfl⟩ | ⟨rfl, rfl, rfl, rfl, rfl⟩ | ⟨rfl, rfl, rfl, rfl, rfl⟩ | ⟨rfl, rfl, rfl, rfl, rfl⟩ | ⟨rfl, rfl, rfl, rfl, rfl⟩⟩ := hrel
      · simp only [show ((0 : Nat) : Int) = 0 from rfl]
        have hsw := hs.since hb
        go_wp2_with fail
        refine (at_ok A n c 8 l _ (b8.toNat : Int) _ hl.out hsw rfl ha8.out).mono ?_
        rintro e w' ⟨rfl, rfl⟩
        go_wp2_with fail
        refine (at_ok A n c 9 l _ (b9.toNat : Int) _ hl.out hsw rfl ha9.out).mono ?_
        rintro e w' ⟨rfl, rfl⟩
        have hL := Held.lit wr [b8, b9] #[.int .u8 (b8.toNat : Int), .int .u8 (b9.toNat : Int)] rfl (by simp [maxLen])
        go_wp2_with fail
        refine (rtakeInt_ok wr.heap.size 2 b8 b9 _ hL).mono ?_
        rintro e wa ⟨rfl, hb6⟩
        have hl0 := below_new wr (.cells #[.int .u8 (b8.toNat : Int), .int .u8 (b9.toNat : Int)] 5)
        have hb7 := hl0.trans (hb6.mono hl0.size)
        have hR := hR.since hb7
        have hM := hM.since hb7
        have hb := hb.trans (hb7.mono hb.size)
        have hcl : wa.cell? ⟨w.heap.size + 1, 8, none⟩ = some (.int .i64 0) := hM.cell rfl
        have hfr := hM.frozen 8
        have hM2 : Arr (wa.setCell ⟨w.heap.size + 1, 8, none⟩ (.int .i64 (signed (256 * b8.toNat + b9.toNat)))) (w.heap.size + 1) (mv ⟨(b0.toNat : Int), (16777216 * (b1.toNat : Int) + 65536 * b2.toNat + 256 * b3.toNat + b4.toNat), (b1.toNat : Int), (b5.toNat : Int), (256 * (b5.toNat : Int) + b6.toNat), (b7.toNat : Int), (b7.toNat : Int), ((b5.toNat : Int) == 1), signed (256 * b8.toNat + b9.toNat), 0, 0, 0⟩) := hM.set 8 _
        have hR2 := hR.other (a := ⟨w.heap.size + 1, 8, none⟩) (Nat.ne_of_lt (Nat.lt_succ_self _)) (.int .i64 (signed (256 * b8.toNat + b9.toNat)))
        have hb8 := hb.setCell (p := ⟨w.heap.size + 1, 8, none⟩) (Nat.le_succ _) (.int .i64 (signed (256 * b8.toNat + b9.toNat)))
        clear hL hl0 hb6 hb7 hR hM hb hsw
        go_wp2
        go_roundw
        case rel => exact ⟨1, _, _, _, _, rfl, hR2, hM2, hb8, .inr (.inl ⟨rfl, rfl, rfl, rfl, rfl⟩)⟩
        case measure => simp [intOf]
      · simp only [show ((1 : Nat) : Int) = 1 from rfl]
        have hsw := hs.since hb
        go_wp2_with fail
        refine (at_ok A n c 10 l _ (b10.toNat : Int) _ hl.out hsw rfl ha10.out).mono ?_
        rintro e w' ⟨rfl, rfl⟩
        go_wp2_with fail
        refine (at_ok A n c 11 l _ (b11.toNat : Int) _ hl.out hsw rfl ha11.out).mono ?_
        rintro e w' ⟨rfl, rfl⟩
        have hL := Held.lit wr [b10, b11] #[.int .u8 (b10.toNat : Int), .int .u8 (b11.toNat : Int)] rfl (by simp [maxLen])
        go_wp2_with fail
        refine (rtakeInt_ok wr.heap.size 2 b10 b11 _ hL).mono ?_
        rintro e wa ⟨rfl, hb6⟩
        have hl0 := below_new wr (.cells #[.int .u8 (b10.toNat : Int), .int .u8 (b11.toNat : Int)] 5)
        have hb7 := hl0.trans (hb6.mono hl0.size)
        have hR := hR.since hb7
        have hM := hM.since hb7
        have hb := hb.trans (hb7.mono hb.size)
        have hcl : wa.cell? ⟨w.heap.size + 1, 9, none⟩ = some (.int .i64 0) := hM.cell rfl
        have hfr := hM.frozen 9
        have hM2 : Arr (wa.setCell ⟨w.heap.size + 1, 9, none⟩ (.int .i64 (signed (256 * b10.toNat + b11.toNat)))) (w.heap.size + 1) (mv ⟨(b0.toNat : Int), (16777216 * (b1.toNat : Int) + 65536 * b2.toNat + 256 * b3.toNat + b4.toNat), (b1.toNat : Int), (b5.toNat : Int), (256 * (b5.toNat : Int) + b6.toNat), (b7.toNat : Int), (b7.toNat : Int), ((b5.toNat : Int) == 1), signed (256 * b8.toNat + b9.toNat), signed (256 * b10.toNat + b11.toNat), 0, 0⟩) := hM.set 9 _
        have hR2 := hR.other (a := ⟨w.heap.size + 1, 9, none⟩) (Nat.ne_of_lt (Nat.lt_succ_self _)) (.int .i64 (signed (256 * b10.toNat + b11.toNat)))
        have hb8 := hb.setCell (p := ⟨w.heap.size + 1, 9, none⟩) (Nat.le_succ _) (.int .i64 (signed (256 * b10.toNat + b11.toNat)))
        clear hL hl0 hb6 hb7 hR hM hb hsw
        go_wp2
        go_roundw
        case rel => exact ⟨2, _, _, _, _, rfl, hR2, hM2, hb8, .inr (.inr (.inl ⟨rfl, rfl, rfl, rfl, rfl⟩))⟩
        case measure => simp [intOf]
      · simp only [show ((2 : Nat) : Int) = 2 from rfl]
        have hsw := hs.since hb
        go_wp2_with fail
        refine (at_ok A n c 12 l _ (b12.toNat : Int) _ hl.out hsw rfl ha12.out).mono ?_
        rintro e w' ⟨rfl, rfl⟩
        go_wp2_with fail
        refine (at_ok A n c 13 l _ (b13.toNat : Int) _ hl.out hsw rfl ha13.out).mono ?_
        rintro e w' ⟨rfl, rfl⟩
        have hL := Held.lit wr [b12, b13] #[.int .u8 (b12.toNat : Int), .int .u8 (b13.toNat : Int)] rfl (by simp [maxLen])
        go_wp2_with fail
        refine (rtakeInt_ok wr.heap.size 2 b12 b13 _ hL).mono ?_
        rintro e wa ⟨rfl, hb6⟩
        have hl0 := below_new wr (.cells #[.int .u8 (b12.toNat : Int), .int .u8 (b13.toNat : Int)] 5)
        have hb7 := hl0.trans (hb6.mono hl0.size)
        have hR := hR.since hb7
        have hM := hM.since hb7
        have hb := hb.trans (hb7.mono hb.size)
        have hcl : wa.cell? ⟨w.heap.size + 1, 10, none⟩ = some (.int .i64 0) := hM.cell rfl
        have hfr := hM.frozen 10
        have hM2 : Arr (wa.setCell ⟨w.heap.size + 1, 10, none⟩ (.int .i64 (signed (256 * b12.toNat + b13.toNat)))) (w.heap.size + 1) (mv ⟨(b0.toNat : Int), (16777216 * (b1.toNat : Int) + 65536 * b2.toNat + 256 * b3.toNat + b4.toNat), (b1.toNat : Int), (b5.toNat : Int), (256 * (b5.toNat : Int) + b6.toNat), (b7.toNat : Int), (b7.toNat : Int), ((b5.toNat : Int) == 1), signed (256 * b8.toNat + b9.toNat), signed (256 * b10.toNat + b11.toNat), signed (256 * b12.toNat + b13.toNat), 0⟩) := hM.set 10 _
        have hR2 := hR.other (a := ⟨w.heap.size + 1, 10, none⟩) (Nat.ne_of_lt (Nat.lt_succ_self _)) (.int .i64 (signed (256 * b12.toNat + b13.toNat)))
        have hb8 := hb.setCell (p := ⟨w.heap.size + 1, 10, none⟩) (Nat.le_succ _) (.int .i64 (signed (256 * b12.toNat + b13.toNat)))
        clear hL hl0 hb6 hb7 hR hM hb hsw
        go_wp2
        go_roundw
        case rel => exact ⟨3, _, _, _, _, rfl, hR2, hM2, hb8, .inr (.inr (.inr (.inl ⟨rfl, rfl, rfl, rfl, rfl⟩)))⟩
        case measure => simp [intOf]
      · simp only [show ((3 : Nat) : Int) = 3 from rfl]
        have hsw := hs.since hb
        go_wp2_with fail
        refine (at_ok A n c 14 l _ (b14.toNat : Int) _ hl.out hsw rfl ha14.out).mono ?_
        rintro e w' ⟨rfl, rfl⟩
        go_wp2_with fail
        refine (at_ok A n c 15 l _ (b15.toNat : Int) _ hl.out hsw rfl ha15.out).mono ?_
        rintro e w' ⟨rfl, rfl⟩
        have hL := Held.lit wr [b14, b15] #[.int .u8 (b14.toNat : Int), .int .u8 (b15.toNat : Int)] rfl (by simp [maxLen])
        go_wp2_with fail
        refine (rtakeInt_ok wr.heap.size 2 b14 b15 _ hL).mono ?_
        rintro e wa ⟨rfl, hb6⟩
        have hl0 := below_new wr (.cells #[.int .u8 (b14.toNat : Int), .int .u8 (b15.toNat : Int)] 5)
        have hb7 := hl0.trans (hb6.mono hl0.size)
        have hR := hR.since hb7
        have hM := hM.since hb7
        have hb := hb.trans (hb7.mono hb.size)
        have hcl : wa.cell? ⟨w.heap.size + 1, 11, none⟩ = some (.int .i64 0) := hM.cell rfl
        have hfr := hM.frozen 11
        have hM2 : Arr (wa.setCell ⟨w.heap.size + 1, 11, none⟩ (.int .i64 (signed (256 * b14.toNat + b15.toNat)))) (w.heap.size + 1) (mv ⟨(b0.toNat : Int), (16777216 * (b1.toNat : Int) + 65536 * b2.toNat + 256 * b3.toNat + b4.toNat), (b1.toNat : Int), (b5.toNat : Int), (256 * (b5.toNat : Int) + b6.toNat), (b7.toNat : Int), (b7.toNat : Int), ((b5.toNat : Int) == 1), signed (256 * b8.toNat + b9.toNat), signed (256 * b10.toNat + b11.toNat), signed (256 * b12.toNat + b13.toNat), signed (256 * b14.toNat + b15.toNat)⟩) := hM.set 11 _
        have hR2 := hR.other (a := ⟨w.heap.size + 1, 11, none⟩) (Nat.ne_of_lt (Nat.lt_succ_self _)) (.int .i64 (signed (256 * b14.toNat + b15.toNat)))
        have hb8 := hb.setCell (p := ⟨w.heap.size + 1, 11, none⟩) (Nat.le_succ _) (.int .i64 (signed (256 * b14.toNat + b15.toNat)))
        clear hL hl0 hb6 hb7 hR hM hb hsw
        go_wp2
        go_roundw
        case rel => exact ⟨4, _, _, _, _, rfl, hR2, hM2, hb8, .inr (.inr (.inr (.inr (⟨rfl, rfl, rfl, rfl, rfl⟩))))⟩
        case measure => simp [intOf]
      · simp only [show ((4 : Nat) : Int) = 4 from rfl]
        go_wp2_with (guard_target =~ wpList _ _ _ (Oper.mk _ (Op.load 24 _) _ _ _ _ :: _) _ _; refine wpList_load_arr 12 rfl rfl rfl hM (by kernel_rfl) rfl ?_)
        refine (named_ok _ _).mono ?_
        rintro e wa ⟨rfl, hb6⟩
        rw [← hD.out]
        have hR := hR.since hb6
        have hM := hM.since hb6
        have hb := hb.trans (hb6.mono hb.size)
        clear hb6
        have hltR := hR.lt
        go_wp2_with (first
          | (guard_target =~ wpList _ _ _ (Oper.mk _ (Op.store 24 _ _) _ _ _ _ :: _) _ _; refine wpList_store_arr (cs' := mv (decM l)) 12 rfl rfl rfl rfl hM (by kernel_rfl) rfl rfl (mv_one _) ?_))
        intro wb hM2 ho hbb hsz
        have hR2 := hR.of_block (ho w.heap.size (Nat.ne_of_lt (Nat.lt_succ_self _)))
        have hb2 := hb.trans (hbb.mono (Nat.le_succ _))
        clear hR hM hb ho hbb hsz hltR
        go_wp2_with (guard_target =~ wpList _ _ _ (Oper.mk _ (Op.load 24 _) _ _ _ _ :: _) _ _; refine wpList_load_arr 12 rfl rfl rfl hM2 (by kernel_rfl) rfl ?_)
        refine (refPut_ok (decM l) _).mono ?_
        rintro e wc ⟨v5, rfl, ho5, hb5⟩
        have hM3 := hM2.since hb5
        have hR3 := hR2.since hb5
        have hw3 := hb2.trans (hb5.mono hb2.size)
        clear hM2 hR2 hb2 hb5 hD
        cases hok : okM (decM l) with
        | false =>
          have g := got_no (show takeM l = none from by unfold takeM; rw [if_neg (fun e => by rw [hok] at e; exact absurd e.2.1 (by simp))])
          rw [(code_no hok).2] at ho5
          rw [(code_no hok).1]
          obtain ⟨A5, c5, rfl, -⟩ := ho5.seen_at (k := 0) rfl
          replace g := Lib.hid g
          clear ho5 hM3
          go_wp2_with (guard_target =~ wpList _ _ _ (Oper.mk _ (Op.store 24 _ _) _ _ _ _ :: _) _ _; refine wpList_store_arr (cs' := mv zM) 12 rfl rfl rfl rfl hR3 (by kernel_rfl) rfl rfl (mv_one _) ?_)
          intro wd hR4 ho hbb hsz
          have hw4 := hw3.trans (hbb.mono (Nat.le_refl _))
          go_wp2
          exact ret_arr_tmp rfl w.heap.size _ _ rfl hR4 Try.underlying24 rfl (by kernel_rfl) rfl ⟨by rw [g.out.1, g.out.2]; rfl, hw4⟩
        | true =>
          rw [(code_ok hok).2] at ho5
          rw [(code_ok hok).1]
          obtain ⟨k5, hk5⟩ : ∃ k, (msgB (decM l)).length = k := ⟨_, rfl⟩
          obtain ⟨A5, c5, rfl, hs5⟩ := ho5.seen_at hk5
          obtain ⟨s1, hs1⟩ : ∃ s : ByteArray, s = ⟨(msgB (decM l)).toArray⟩ := ⟨_, rfl⟩
          obtain ⟨s2, hs2⟩ : ∃ s : ByteArray, s = ⟨l.toArray⟩ := ⟨_, rfl⟩
          have t1 := hs5.str k5 c5 hk5 s1 hs1
          have t2 := (hs.since hw3).str n c hl.out s2 hs2
          obtain ⟨bN, hbN⟩ : ∃ b, (s1.toList == s2.toList) = b := ⟨_, rfl⟩
          have hbM : (s1.toList != s2.toList) = !bN := by rw [bne, hbN]
          have hcmp : bN = true ↔ msgB (decM l) = l := by
            rw [← hbN, hs1, hs2, ByteArray.toList_eq, ByteArray.toList_eq, beq_iff_eq]
          clear ho5 hs5 hk5 hs1 hs2
          cases bN
          · simp only [Bool.not_false] at hbM
            have g := got_no (show takeM l = none from by unfold takeM; rw [if_neg (fun e => by have := hcmp.2 e.2.2; cases this)])
            replace g := Lib.hid g
            clear hcmp hM3
            go_wp2_with (guard_target =~ wpList _ _ _ (Oper.mk _ (Op.store 24 _ _) _ _ _ _ :: _) _ _; refine wpList_store_arr (cs' := mv zM) 12 rfl rfl rfl rfl hR3 (by kernel_rfl) rfl rfl (mv_one _) ?_)
            intro wd hR4 ho hbb hsz
            have hw4 := hw3.trans (hbb.mono (Nat.le_refl _))
            go_wp2
            exact ret_arr_tmp rfl w.heap.size _ _ rfl hR4 Try.underlying24 rfl (by kernel_rfl) rfl ⟨by rw [g.out.1, g.out.2]; rfl, hw4⟩
          · simp only [Bool.not_true] at hbM
            have g := got_some' (show takeM l = some (decM l) from by unfold takeM; rw [if_pos ⟨by rw [hl.out]; omega, hok, hcmp.1 rfl⟩])
            replace g := Lib.hid g
            clear hcmp
            go_wp2_with (first
              | (guard_target =~ wpList _ _ _ (Oper.mk _ (Op.load 24 _) _ _ _ _ :: _) _ _; refine wpList_load_arr 12 rfl rfl rfl hM3 (by kernel_rfl) rfl ?_)
              | (guard_target =~ wpList _ _ _ (Oper.mk _ (Op.store 24 _ _) _ _ _ _ :: _) _ _; refine wpList_store_arr (cs' := mv (decM l)) 12 rfl rfl rfl rfl hR3 (by kernel_rfl) rfl rfl (mv_one _) ?_))
            intro wd hR4 ho hbb hsz
            have hw4 := hw3.trans (hbb.mono (Nat.le_refl _))
            go_wp2
            exact ret_arr_tmp rfl w.heap.size _ _ rfl hR4 Try.underlying24 rfl (by kernel_rfl) rfl ⟨by rw [g.out.1, g.out.2]; rfl, hw4⟩
  · have hD := hdec.out
    rw [if_neg hk] at hD
    replace hD := Lib.hid hD
    clear hdec hk
    go_wp2_with fail
    refine (at_ok A n c 5 l _ (b5.toNat : Int) _ hl.out (hs1.alloc _) rfl ha5.out).mono ?_
    rintro e w' ⟨rfl, rfl⟩
    go_wp2_with fail
    refine (at_ok A n c 5 l _ (b5.toNat : Int) _ hl.out (hs1.alloc _) rfl ha5.out).mono ?_
    rintro e w' ⟨rfl, rfl⟩
    go_wp2_with fail
    refine (at_ok A n c 5 l _ (b5.toNat : Int) _ hl.out (hs1.alloc _) rfl ha5.out).mono ?_
    rintro e w' ⟨rfl, rfl⟩
    go_wp2_with fail
    refine (at_ok A n c 6 l _ (b6.toNat : Int) _ hl.out (hs1.alloc _) rfl ha6.out).mono ?_
    rintro e w' ⟨rfl, rfl⟩
    go_wp2_with fail
    refine (at_ok A n c 7 l _ (b7.toNat : Int) _ hl.out (hs1.alloc _) rfl ha7.out).mono ?_
    rintro e w' ⟨rfl, rfl⟩
    go_wp2_with fail
    refine (at_ok A n c 7 l _ (b7.toNat : Int) _ hl.out (hs1.alloc _) rfl ha7.out).mono ?_
    rintro e w' ⟨rfl, rfl⟩
    go_wp2
    go_loopw [5] (fun t W => ∃ (i : Nat) (y0 y1 y2 y3 : Int), t = .int .i64 i ∧ Arr W w.heap.size (mv zM) ∧ Arr W (w.heap.size + 1) (mv ⟨(b0.toNat : Int), (16777216 * (b1.toNat : Int) + 65536 * b2.toNat + 256 * b3.toNat + b4.toNat), 0, (b5.toNat : Int), (256 * (b5.toNat : Int) + b6.toNat), (b7.toNat : Int), (b7.toNat : Int), ((b5.toNat : Int) == 1), y0, y1, y2, y3⟩) ∧ Below w.heap.size w W ∧ ((i = 0 ∧ y0 = 0 ∧ y1 = 0 ∧ y2 = 0 ∧ y3 = 0) ∨ (i = 1 ∧ y0 = signed (256 * b8.toNat + b9.toNat) ∧ y1 = 0 ∧ y2 = 0 ∧ y3 = 0) ∨ (i = 2 ∧ y0 = signed (256 * b8.toNat + b9.toNat) ∧ y1 = signed (256 * b10.toNat + b11.toNat) ∧ y2 = 0 ∧ y3 = 0) ∨ (i = 3 ∧ y0 = signed (256 * b8.toNat + b9.toNat) ∧ y1 = signed (256 * b10.toNat + b11.toNat) ∧ y2 = signed (256 * b12.toNat + b13.toNat) ∧ y3 = 0) ∨ (i = 4 ∧ y0 = signed (256 * b8.toNat + b9.toNat) ∧ y1 = signed (256 * b10.toNat + b11.toNat) ∧ y2 = signed (256 * b12.toNat + b13.toNat) ∧ y3 = signed (256 * b14.toNat + b15.toNat)))) (fun t _ => 4 - (intOf t).toNat)
    case atStart => exact ⟨0, 0, 0, 0, 0, rfl, box_cells w (mv zM) _ 24 _ rfl, arr_snd w _ _ _ 24 rfl, below2 w _ _, .inl ⟨rfl, rfl, rfl, rfl, rfl⟩⟩
    case round =>
      obtain ⟨i, y0, y1, y2, y3, rfl, hR, hM, hb, ⟨rfl, rfl, rfl, rfl, rfl⟩ | ⟨rfl, rfl, rfl, rfl, rfl⟩ | ⟨rfl, rfl, rfl, rfl, rfl⟩ | ⟨rfl, rfl, rfl, rfl, rfl⟩ | ⟨rfl, rfl, rfl, rfl, rfl⟩⟩ := hrel
      · simp only [show ((0 : Nat) : Int) = 0 from rfl]
        have hsw := hs.since hb
        go_wp2_with fail
        refine (at_ok A n c 8 l _ (b8.toNat : Int) _ hl.out hsw rfl ha8.out).mono ?_
        rintro e w' ⟨rfl, rfl⟩
        go_wp2_with fail
        refine (at_ok A n c 9 l _ (b9.toNat : Int) _ hl.out hsw rfl ha9.out).mono ?_
        rintro e w' ⟨rfl, rfl⟩
        have hL := Held.lit wr [b8, b9] #[.int .u8 (b8.toNat : Int), .int .u8 (b9.toNat : Int)] rfl (by simp [maxLen])
        go_wp2_with fail
        refine (rtakeInt_ok wr.heap.size 2 b8 b9 _ hL).mono ?_
        rintro e wa ⟨rfl, hb6⟩
        have hl0 := below_new wr (.cells #[.int .u8 (b8.toNat : Int), .int .u8 (b9.toNat : Int)] 5)
        have hb7 := hl0.trans (hb6.mono hl0.size)
        have hR := hR.since hb7
        have hM := hM.since hb7
        have hb := hb.trans (hb7.mono hb.size)
        have hcl : wa.cell? ⟨w.heap.size + 1, 8, none⟩ = some (.int .i64 0) := hM.cell rfl
        have hfr := hM.frozen 8
        have hM2 : Arr (wa.setCell ⟨w.heap.size + 1, 8, none⟩ (.int .i64 (signed (256 * b8.toNat + b9.toNat)))) (w.heap.size + 1) (mv ⟨(b0.toNat : Int), (16777216 * (b1.toNat : Int) + 65536 * b2.toNat + 256 * b3.toNat + b4.toNat), 0, (b5.toNat : Int), (256 * (b5.toNat : Int) + b6.toNat), (b7.toNat : Int), (b7.toNat : Int), ((b5.toNat : Int) == 1), signed (256 * b8.toNat + b9.toNat), 0, 0, 0⟩) := hM.set 8 _
        have hR2 := hR.other (a := ⟨w.heap.size + 1, 8, none⟩) (Nat.ne_of_lt (Nat.lt_succ_self _)) (.int .i64 (signed (256 * b8.toNat + b9.toNat)))
        have hb8 := hb.setCell (p := ⟨w.heap.size + 1, 8, none⟩) (Nat.le_succ _) (.int .i64 (signed (256 * b8.toNat + b9.toNat)))
        clear hL hl0 hb6 hb7 hR hM hb hsw
        go_wp2
        go_roundw
        case rel => exact ⟨1, _, _, _, _, rfl, hR2, hM2, hb8, .inr (.inl ⟨rfl, rfl, rfl, rfl, rfl⟩)⟩
        case measure => simp [intOf]
      · simp only [show ((1 : Nat) : Int) = 1 from rfl]
        have hsw := hs.since hb
        go_wp2_with fail
        refine (at_ok A n c 10 l _ (b10.toNat : Int) _ hl.out hsw rfl ha10.out).mono ?_
        rintro e w' ⟨rfl, rfl⟩
        go_wp2_with fail
        refine (at_ok A n c 11 l _ (b11.toNat : Int) _ hl.out hsw rfl ha11.out).mono ?_
        rintro e w' ⟨rfl, rfl⟩
        have hL := Held.lit wr [b10, b11] #[.int .u8 (b10.toNat : Int), .int .u8 (b11.toNat : Int)] rfl (by simp [maxLen])
        go_wp2_with fail
        refine (rtakeInt_ok wr.heap.size 2 b10 b11 _ hL).mono ?_
        rintro e wa ⟨rfl, hb6⟩
        have hl0 := below_new wr (.cells #[.int .u8 (b10.toNat : Int), .int .u8 (b11.toNat : Int)] 5)
        have hb7 := hl0.trans (hb6.mono hl0.size)
        have hR := hR.since hb7
        have hM := hM.since hb7
        have hb := hb.trans (hb7.mono hb.size)
        have hcl : wa.cell? ⟨w.heap.size + 1, 9, none⟩ = some (.int .i64 0) := hM.cell rfl
        have hfr := hM.frozen 9
        have hM2 : Arr (wa.setCell ⟨w.heap.size + 1, 9, none⟩ (.int .i64 (signed (256 * b10.toNat + b11.toNat)))) (w.heap.size + 1) (mv ⟨(b0.toNat : Int), (16777216 * (b1.toNat : Int) + 65536 * b2.toNat + 256 * b3.toNat + b4.toNat), 0, (b5.toNat : Int), (256 * (b5.toNat : Int) + b6.toNat), (b7.toNat : Int), (b7.toNat : Int), ((b5.toNat : Int) == 1), signed (256 * b8.toNat + b9.toNat), signed (256 * b10.toNat + b11.toNat), 0, 0⟩) := hM.set 9 _
        have hR2 := hR.other (a := ⟨w.heap.size + 1, 9, none⟩) (Nat.ne_of_lt (Nat.lt_succ_self _)) (.int .i64 (signed (256 * b10.toNat + b11.toNat)))
        have hb8 := hb.setCell (p := ⟨w.heap.size + 1, 9, none⟩) (Nat.le_succ _) (.int .i64 (signed (256 * b10.toNat + b11.toNat)))
        clear hL hl0 hb6 hb7 hR hM hb hsw
        go_wp2
        go_roundw
        case rel => exact ⟨2, _, _, _, _, rfl, hR2, hM2, hb8, .inr (.inr (.inl ⟨rfl, rfl, rfl, rfl, rfl⟩))⟩
        case measure => simp [intOf]
      · simp only [show ((2 : Nat) : Int) = 2 from rfl]
        have hsw := hs.since hb
        go_wp2_with fail
        refine (at_ok A n c 12 l _ (b12.toNat : Int) _ hl.out hsw rfl ha12.out).mono ?_
        rintro e w' ⟨rfl, rfl⟩
        go_wp2_with fail
        refine (at_ok A n c 13 l _ (b13.toNat : Int) _ hl.out hsw rfl ha13.out).mono ?_
        rintro e w' ⟨rfl, rfl⟩
        have hL := Held.lit wr [b12, b13] #[.int .u8 (b12.toNat : Int), .int .u8 (b13.toNat : Int)] rfl (by simp [maxLen])
        go_wp2_with fail
        refine (rtakeInt_ok wr.heap.size 2 b12 b13 _ hL).mono ?_
        rintro e wa ⟨rfl, hb6⟩
        have hl0 := below_new wr (.cells #[.int .u8 (b12.toNat : Int), .int .u8 (b13.toNat : Int)] 5)
        have hb7 := hl0.trans (hb6.mono hl0.size)
        have hR := hR.since hb7
        have hM := hM.since hb7
        have hb := hb.trans (hb7.mono hb.size)
        have hcl : wa.cell? ⟨w.heap.size + 1, 10, none⟩ = some (.int .i64 0) := hM.cell rfl
        have hfr := hM.frozen 10
        have hM2 : Arr (wa.setCell ⟨w.heap.size + 1, 10, none⟩ (.int .i64 (signed (256 * b12.toNat + b13.toNat)))) (w.heap.size + 1) (mv ⟨(b0.toNat : Int), (16777216 * (b1.toNat : Int) + 65536 * b2.toNat + 256 * b3.toNat + b4.toNat), 0, (b5.toNat : Int), (256 * (b5.toNat : Int) + b6.toNat), (b7.toNat : Int), (b7.toNat : Int), ((b5.toNat : Int) == 1), signed (256 * b8.toNat + b9.toNat), signed (256 * b10.toNat + b11.toNat), signed (256 * b12.toNat + b13.toNat), 0⟩) := hM.set 10 _
        have hR2 := hR.other (a := ⟨w.heap.size + 1, 10, none⟩) (Nat.ne_of_lt (Nat.lt_succ_self _)) (.int .i64 (signed (256 * b12.toNat + b13.toNat)))
        have hb8 := hb.setCell (p := ⟨w.heap.size + 1, 10, none⟩) (Nat.le_succ _) (.int .i64 (signed (256 * b12.toNat + b13.toNat)))
        clear hL hl0 hb6 hb7 hR hM hb hsw
        go_wp2
        go_roundw
        case rel => exact ⟨3, _, _, _, _, rfl, hR2, hM2, hb8, .inr (.inr (.inr (.inl ⟨rfl, rfl, rfl, rfl, rfl⟩)))⟩
        case measure => simp [intOf]
      · simp only [show ((3 : Nat) : Int) = 3 from rfl]
        have hsw := hs.since hb
        go_wp2_with fail
        refine (at_ok A n c 14 l _ (b14.toNat : Int) _ hl.out hsw rfl ha14.out).mono ?_
        rintro e w' ⟨rfl, rfl⟩
        go_wp2_with fail
        refine (at_ok A n c 15 l _ (b15.toNat : Int) _ hl.out hsw rfl ha15.out).mono ?_
        rintro e w' ⟨rfl, rfl⟩
        have hL := Held.lit wr [b14, b15] #[.int .u8 (b14.toNat : Int), .int .u8 (b15.toNat : Int)] rfl (by simp [maxLen])
        go_wp2_with fail
        refine (rtakeInt_ok wr.heap.size 2 b14 b15 _ hL).mono ?_
        rintro e wa ⟨rfl, hb6⟩
        have hl0 := below_new wr (.cells #[.int .u8 (b14.toNat : Int), .int .u8 (b15.toNat : Int)] 5)
        have hb7 := hl0.trans (hb6.mono hl0.size)
        have hR := hR.since hb7
        have hM := hM.since hb7
        have hb := hb.trans (hb7.mono hb.size)
        have hcl : wa.cell? ⟨w.heap.size + 1, 11, none⟩ = some (.int .i64 0) := hM.cell rfl
        have hfr := hM.frozen 11
        have hM2 : Arr (wa.setCell ⟨w.heap.size + 1, 11, none⟩ (.int .i64 (signed (256 * b14.toNat + b15.toNat)))) (w.heap.size + 1) (mv ⟨(b0.toNat : Int), (16777216 * (b1.toNat : Int) + 65536 * b2.toNat + 256 * b3.toNat + b4.toNat), 0, (b5.toNat : Int), (256 * (b5.toNat : Int) + b6.toNat), (b7.toNat : Int), (b7.toNat : Int), ((b5.toNat : Int) == 1), signed (256 * b8.toNat + b9.toNat), signed (256 * b10.toNat + b11.toNat), signed (256 * b12.toNat + b13.toNat), signed (256 * b14.toNat + b15.toNat)⟩) := hM.set 11 _
        have hR2 := hR.other (a := ⟨w.heap.size + 1, 11, none⟩) (Nat.ne_of_lt (Nat.lt_succ_self _)) (.int .i64 (signed (256 * b14.toNat + b15.toNat)))
        have hb8 := hb.setCell (p := ⟨w.heap.size + 1, 11, none⟩) (Nat.le_succ _) (.int .i64 (signed (256 * b14.toNat + b15.toNat)))
        clear hL hl0 hb6 hb7 hR hM hb hsw
        go_wp2
        go_roundw
        case rel => exact ⟨4, _, _, _, _, rfl, hR2, hM2, hb8, .inr (.inr (.inr (.inr (⟨rfl, rfl, rfl, rfl, rfl⟩))))⟩
        case measure => simp [intOf]
      · simp only [show ((4 : Nat) : Int) = 4 from rfl]
        go_wp2_with (guard_target =~ wpList _ _ _ (Oper.mk _ (Op.load 24 _) _ _ _ _ :: _) _ _; refine wpList_load_arr 12 rfl rfl rfl hM (by kernel_rfl) rfl ?_)
        refine (named_ok _ _).mono ?_
        rintro e wa ⟨rfl, hb6⟩
        rw [← hD.out]
        have hR := hR.since hb6
        have hM := hM.since hb6
        have hb := hb.trans (hb6.mono hb.size)
        clear hb6
        have hltR := hR.lt
        go_wp2_with (first
          | (guard_target =~ wpList _ _ _ (Oper.mk _ (Op.store 24 _ _) _ _ _ _ :: _) _ _; refine wpList_store_arr (cs' := mv (decM l)) 12 rfl rfl rfl rfl hM (by kernel_rfl) rfl rfl (mv_one _) ?_))
        intro wb hM2 ho hbb hsz
        have hR2 := hR.of_block (ho w.heap.size (Nat.ne_of_lt (Nat.lt_succ_self _)))
        have hb2 := hb.trans (hbb.mono (Nat.le_succ _))
        clear hR hM hb ho hbb hsz hltR
        go_wp2_with (guard_target =~ wpList _ _ _ (Oper.mk _ (Op.load 24 _) _ _ _ _ :: _) _ _; refine wpList_load_arr 12 rfl rfl rfl hM2 (by kernel_rfl) rfl ?_)
        refine (refPut_ok (decM l) _).mono ?_
        rintro e wc ⟨v5, rfl, ho5, hb5⟩
        have hM3 := hM2.since hb5
        have hR3 := hR2.since hb5
        have hw3 := hb2.trans (hb5.mono hb2.size)
        clear hM2 hR2 hb2 hb5 hD
        cases hok : okM (decM l) with
        | false =>
          have g := got_no (show takeM l = none from by unfold takeM; rw [if_neg (fun e => by rw [hok] at e; exact absurd e.2.1 (by simp))])
          rw [(code_no hok).2] at ho5
          rw [(code_no hok).1]
          obtain ⟨A5, c5, rfl, -⟩ := ho5.seen_at (k := 0) rfl
          replace g := Lib.hid g
          clear ho5 hM3
          go_wp2_with (guard_target =~ wpList _ _ _ (Oper.mk _ (Op.store 24 _ _) _ _ _ _ :: _) _ _; refine wpList_store_arr (cs' := mv zM) 12 rfl rfl rfl rfl hR3 (by kernel_rfl) rfl rfl (mv_one _) ?_)
          intro wd hR4 ho hbb hsz
          have hw4 := hw3.trans (hbb.mono (Nat.le_refl _))
          go_wp2
          exact ret_arr_tmp rfl w.heap.size _ _ rfl hR4 Try.underlying24 rfl (by kernel_rfl) rfl ⟨by rw [g.out.1, g.out.2]; rfl, hw4⟩
        | true =>
          rw [(code_ok hok).2] at ho5
          rw [(code_ok hok).1]
          obtain ⟨k5, hk5⟩ : ∃ k, (msgB (decM l)).length = k := ⟨_, rfl⟩
          obtain ⟨A5, c5, rfl, hs5⟩ := ho5.seen_at hk5
          obtain ⟨s1, hs1⟩ : ∃ s : ByteArray, s = ⟨(msgB (decM l)).toArray⟩ := ⟨_, rfl⟩
          obtain ⟨s2, hs2⟩ : ∃ s : ByteArray, s = ⟨l.toArray⟩ := ⟨_, rfl⟩
          have t1 := hs5.str k5 c5 hk5 s1 hs1
          have t2 := (hs.since hw3).str n c hl.out s2 hs2
          obtain ⟨bN, hbN⟩ : ∃ b, (s1.toList == s2.toList) = b := ⟨_, rfl⟩
          have hbM : (s1.toList != s2.toList) = !bN := by rw [bne, hbN]
          have hcmp : bN = true ↔ msgB (decM l) = l := by
            rw [← hbN, hs1, hs2, ByteArray.toList_eq, ByteArray.toList_eq, beq_iff_eq]
          clear ho5 hs5 hk5 hs1 hs2
          cases bN
          · simp only [Bool.not_false] at hbM
            have g := got_no (show takeM l = none from by unfold takeM; rw [if_neg (fun e => by have := hcmp.2 e.2.2; cases this)])
            replace g := Lib.hid g
            clear hcmp hM3
            go_wp2_with (guard_target =~ wpList _ _ _ (Oper.mk _ (Op.store 24 _ _) _ _ _ _ :: _) _ _; refine wpList_store_arr (cs' := mv zM) 12 rfl rfl rfl rfl hR3 (by kernel_rfl) rfl rfl (mv_one _) ?_)
            intro wd hR4 ho hbb hsz
            have hw4 := hw3.trans (hbb.mono (Nat.le_refl _))
            go_wp2
            exact ret_arr_tmp rfl w.heap.size _ _ rfl hR4 Try.underlying24 rfl (by kernel_rfl) rfl ⟨by rw [g.out.1, g.out.2]; rfl, hw4⟩
          · simp only [Bool.not_true] at hbM
            have g := got_some' (show takeM l = some (decM l) from by unfold takeM; rw [if_pos ⟨by rw [hl.out]; omega, hok, hcmp.1 rfl⟩])
            replace g := Lib.hid g
            clear hcmp
            go_wp2_with (first
              | (guard_target =~ wpList _ _ _ (Oper.mk _ (Op.load 24 _) _ _ _ _ :: _) _ _; refine wpList_load_arr 12 rfl rfl rfl hM3 (by kernel_rfl) rfl ?_)
              | (guard_target =~ wpList _ _ _ (Oper.mk _ (Op.store 24 _ _) _ _ _ _ :: _) _ _; refine wpList_store_arr (cs' := mv (decM l)) 12 rfl rfl rfl rfl hR3 (by kernel_rfl) rfl rfl (mv_one _) ?_))
            intro wd hR4 ho hbb hsz
            have hw4 := hw3.trans (hbb.mono (Nat.le_refl _))
            go_wp2
            exact ret_arr_tmp rfl w.heap.size _ _ rfl hR4 Try.underlying24 rfl (by kernel_rfl) rfl ⟨by rw [g.out.1, g.out.2]; rfl, hw4⟩
end Go.Proofs.Ytmibgmcgicphoaa.msg
