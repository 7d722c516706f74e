/-
  THE WALK OF 'ShaAll': the sum of any bytes, what is summed, and what a block adds to any sum so far, is as the document says.
-/
import Derived.Test.YtjapekiallfaoaaDoorShaShown
import Derived.Deep.RegionHeld3
namespace Go.Proofs.YtjapekiallfaoaaDoor.walks
open Go.ChangeShapes Go.WideShapes Go.ChangeAt Go.RowKit Go.Proofs.YtjapekiallfaoaaDoor.octets Go.Proofs.YtjapekiallfaoaaDoor.sha Go.Proofs.YtjapekiallfaoaaDoor.given
set_option linter.unusedVariables false
set_option linter.unusedSimpArgs false

theorem u8_size (w : World) : (Go.sizeOf 5).run Tryd.prog w = .ok 1 w := size_u8 w
theorem u32_size (w : World) : (Go.sizeOf 23).run Tryd.prog w = .ok 1 w := by kernel_rfl
theorem same32 (l : List UInt8) (hl : l.length = 32) (W : World) : (binOp .eql 28 (.agg (vals l).toArray) (.agg (vals l).toArray)).run Tryd.prog W = .ok (.bool true) W := by
  have e : vals l = (l.map fun c => (c.toNat : Int)).map (Value.int .u8) := by simp [vals]
  rw [e]
  exact run_eql_self W _ _ 32 .u8 Tryd.underlying28 Tryd.underlying5 u8_size _ (by simp [hl])
theorem same8 (l : List UInt32) (hl : l.length = 8) (W : World) : (binOp .eql 24 (.agg (cells32 l).toArray) (.agg (cells32 l).toArray)).run Tryd.prog W = .ok (.bool true) W := by
  have e : cells32 l = (l.map fun c => (c.toNat : Int)).map (Value.int .u32) := by simp [cells32, c32]
  rw [e]
  exact run_eql_self W _ _ 8 .u32 Tryd.underlying24 Tryd.underlying23 u32_size _ (by simp [hl])
/-- from a stronger condition to a weaker one -/
theorem wpAnyH_imp {P : Program} {ops : Array Oper} {Q : Exit → Act → World → Prop} {md : Region.Mode} {S S' : World → Prop} (hSS : ∀ w, S' w → S w) : ∀ (fuel : Nat) (listed : Array Bool) (a : Act) (w : World), wpAnyH P md ops Q S' fuel listed a w → wpAnyH P md ops Q S fuel listed a w
  | 0, _, _, _, h => h
  | fuel + 1, _, _, _, h => ⟨h.1, fun i hi => wpOp_mono (fun a' w' h' => ⟨hSS w' h'.1, wpAnyH_imp hSS fuel _ a' w' h'.2⟩) (h.2 i hi)⟩
/-- what the region's loads read -/
def Two (g k : Nat) (h : List UInt32) (x : List UInt8) (w : World) : Prop := w.rangeAt g 0 (cells32 h) ∧ w.rangeAt k 0 (vals x)
theorem two_of {w : World} {g k : Nat} {h : List UInt32} {x : List UInt8} (hH : Arr w g (cells32 h)) (hX : Arr w k (vals x)) : Two g k h x w := ⟨hH.range, hX.range⟩
set_option maxRecDepth 100000 in
set_option maxHeartbeats 4000000 in
theorem all_core (a : Option Addr) (n cap : Nat) (l : List UInt8) (p P : Nat) (h : List UInt32) (x : List UInt8) (w : World) (hr : Seen w a l) (hp : p = min n 300) (hlp : l.length = p) (hc : n ≤ cap) (hP : padN p = P) (hx : x.length = 64) (hhl : h.length = 8) (hK : Table w) :
    Calls Tryd.prog 3 #[.slice a n cap, .agg (cells32 h).toArray, .agg (vals x).toArray] w fun e w' => e = .returned (.bool true) ∧ Below w.heap.size w w' := by
  have hp3 : p ≤ 300 := by omega
  have hP2 : P ≤ 372 := by have := padN_le p; omega
  have hP3 : 0 < P := by have := padN_ge p; omega
  have hpl : (padL l).length = P := by rw [padL_len, hlp, hP]
  have hH := (Arr.new w (cells32 h) 24).alloc (.cells (vals x).toArray 25)
  have hX := Arr.new (w.alloc (.cells (cells32 h).toArray 24)) (vals x) 25
  have hw0 : Below w.heap.size w ((w.alloc (.cells (cells32 h).toArray 24)).alloc (.cells (vals x).toArray 25)) := by go_grown
  simp only [World.size_alloc] at hX
  have hr0 := hr.since hw0
  have hK0 := hK.since hw0
  replace hp := Lib.hid hp
  replace hlp := Lib.hid hlp
  replace hP : Unit → padN p = P := fun _ => hP
  replace hpl := Lib.hid hpl
  replace hx := Lib.hid hx
  replace hhl := Lib.hid hhl
  go_enter Tryd.func3, Tryd.ntmps3
  try dsimp only [List.append]
  go_wp2_with fail
  refine (shown_any _ hK0).mono ?_
  rintro e w1 ⟨rfl, hw1⟩
  have hr1 := hr0.since hw1
  have hH1 := hH.since hw1
  have hX1 := hX.since hw1
  have hw1' := hw0.trans (hw1.mono hw0.size)
  go_wp2_with fail
  (with_reducible refine (few_ok a n cap p _ hc hp.out).mono ?_)
  rintro e w' ⟨rfl, rfl⟩
  have q1 := same32 (sumB l) (sumB_len l)
  have q2 := same8 (blk h x) (blk_len h x)
  have q3 := same8 sha.start rfl
  obtain ⟨sp, hsp⟩ : ∃ s : ByteArray, s = ⟨(padL l).toArray⟩ := ⟨_, rfl⟩
  replace hsp : Unit → sp = ⟨(padL l).toArray⟩ := fun _ => hsp
  have i64 : (Tryd.prog.info? 25).map (·.size) = some (vals x).length := by rw [vals_len, hx.out]; kernel_rfl
  have u64 : Tryd.prog.underlying 25 = some (.array 64 5) := Tryd.underlying25
  have dr : Seen w1.drew a l := hr1
  have dH : Arr w1.drew w.heap.size (cells32 h) := hH1
  have dX : Arr w1.drew (w.heap.size + 1) (vals x) := hX1
  have dw : Below w.heap.size w w1.drew := hw1'.drew
  have dT : Table w1.drew := hK.since dw
  have hT0 : Table w := hK
  clear hK
  have i8 : (Tryd.prog.info? 24).map (·.size) = some (cells32 h).length := by rw [cells32_len, hhl.out]; kernel_rfl
  have u8 : Tryd.prog.underlying 24 = some (.array 8 23) := Tryd.underlying24
  have dS : Two w.heap.size (w.heap.size + 1) h x w1.drew := two_of dH dX
  go_wp2_with fail
  clear hr hr0 hr1 hH hX hH1 hX1 hw0 hw1 hw1' hK0 hc
  refine wp_region_held_drew (S := Two w.heap.size (w.heap.size + 1) h x) (by kernel_rfl) dS (fun _ => ?_)
  refine wpAnyH_take (i := 0) (v := ?_) rfl (by kernel_rfl) (by kernel_rfl) (by kernel_rfl) (fun _ _ _ h => h) (Or.inl ⟨by rfl, ?_⟩) dS ?_
  rotate_left
  · intro w hSw
    go_simp
    try with_reducible rfl
  simp only [Act.put, List.setIfInBounds_toArray, List.set_cons_zero, List.set_cons_succ]
  try dsimp only
  refine wpAnyH_take (i := 1) (v := ?_) rfl (by kernel_rfl) (by kernel_rfl) (by kernel_rfl) (fun _ _ _ h => h) (Or.inl ⟨by rfl, ?_⟩) dS ?_
  rotate_left
  · intro w hSw
    go_simp
    try with_reducible rfl
  simp only [Act.put, List.setIfInBounds_toArray, List.set_cons_zero, List.set_cons_succ]
  try dsimp only
  refine wpAnyH_take (i := 2) (v := ?_) rfl (by kernel_rfl) (by kernel_rfl) (by kernel_rfl) (fun _ _ _ h => h) (Or.inl ⟨by rfl, ?_⟩) dS ?_
  rotate_left
  · intro w hSw
    go_simp
    try with_reducible rfl
  simp only [Act.put, List.setIfInBounds_toArray, List.set_cons_zero, List.set_cons_succ]
  try dsimp only
  refine wpAnyH_take (i := 4) (v := ?_) rfl (by kernel_rfl) (by kernel_rfl) (by kernel_rfl) (fun _ _ _ h => h) (Or.inl ⟨by rfl, ?_⟩) dS ?_
  rotate_left
  · intro w hSw
    go_simp
    try with_reducible rfl
  simp only [Act.put, List.setIfInBounds_toArray, List.set_cons_zero, List.set_cons_succ]
  try dsimp only
  refine wpAnyH_ready (rs := [3]) (by kernel_rfl) (by simp) ?_
  refine AllReadyH.cons rfl (fun K hK => ?_) AllReadyH.nil
  go_simp
  (with_reducible refine (sum_at a p cap l _ hlp.out (by omega) dr dT).mono ?_)
  rintro e wa ⟨rfl, ha⟩
  have ar := dr.since ha
  have aH := dH.since ha
  have aX := dX.since ha
  have aw := dw.trans (ha.mono dw.size)
  have aS := two_of aH aX
  clear dT
  clear dr dH dX dS dw
  dsimp only
  refine hK.out _ _ aS (fun _ => ?_)
  clear hK K
  refine wpAnyH_ready (rs := [5]) (by kernel_rfl) (by simp) ?_
  refine AllReadyH.cons rfl (fun K hK => ?_) AllReadyH.nil
  go_simp
  (with_reducible refine (rsum_at a p cap l _ hlp.out (by omega) ar).mono ?_)
  rintro e wb ⟨rfl, hb⟩
  have br := ar.since hb
  have bH := aH.since hb
  have bX := aX.since hb
  have bw := aw.trans (hb.mono aw.size)
  have bS := two_of bH bX
  clear ar aH aX aS aw
  dsimp only
  refine hK.out _ _ bS (fun _ => ?_)
  clear hK K
  refine wpAnyH_take (i := 6) (v := ?_) rfl (by kernel_rfl) (by kernel_rfl) (by kernel_rfl) (fun _ _ _ h => h) (Or.inl ⟨by rfl, ?_⟩) bS ?_
  rotate_left
  · intro w hSw
    go_simp
    try with_reducible rfl
  simp only [Act.put, List.setIfInBounds_toArray, List.set_cons_zero, List.set_cons_succ]
  try dsimp only
  refine wpAnyH_take (i := 7) (v := ?_) rfl (by kernel_rfl) (by kernel_rfl) (by kernel_rfl) (fun _ _ _ h => h) (Or.inl ⟨by rfl, ?_⟩) bS ?_
  rotate_left
  · intro w hSw
    go_simp
    try with_reducible rfl
  simp only [Act.put, List.setIfInBounds_toArray, List.set_cons_zero, List.set_cons_succ]
  try dsimp only
  refine wpAnyH_take (i := 8) (v := ?_) rfl (by kernel_rfl) (by kernel_rfl) (by kernel_rfl) (fun _ _ _ h => h) (Or.inl ⟨by rfl, ?_⟩) bS ?_
  rotate_left
  · intro w hSw
    go_simp
    try with_reducible rfl
  simp only [Act.put, List.setIfInBounds_toArray, List.set_cons_zero, List.set_cons_succ]
  try dsimp only
  refine wpAnyH_take (i := 9) (v := ?_) rfl (by kernel_rfl) (by kernel_rfl) (by kernel_rfl) (fun _ _ _ h => h) (Or.inl ⟨by rfl, ?_⟩) bS ?_
  rotate_left
  · intro w hSw
    go_simp
    try with_reducible rfl
  simp only [Act.put, List.setIfInBounds_toArray, List.set_cons_zero, List.set_cons_succ]
  try dsimp only
  refine wpAnyH_take (i := 12) (v := ?_) rfl (by kernel_rfl) (by kernel_rfl) (by kernel_rfl) (fun _ _ _ h => h) (Or.inl ⟨by rfl, ?_⟩) bS ?_
  rotate_left
  · intro w hSw
    go_simp
    try with_reducible rfl
  simp only [Act.put, List.setIfInBounds_toArray, List.set_cons_zero, List.set_cons_succ]
  try dsimp only
  refine wpAnyH_ready (rs := [10]) (by kernel_rfl) (by simp) ?_
  refine AllReadyH.cons rfl (fun K hK => ?_) AllReadyH.nil
  go_simp
  (with_reducible refine (pad_at a p cap l P _ hlp.out (by omega) br (hP ())).mono ?_)
  rintro e wc ⟨b1, rfl, _, cp, hc⟩
  have cr := br.since hc
  have cH := bH.since hc
  have cX := bX.since hc
  have cw := bw.trans (hc.mono bw.size)
  have cS := two_of cH cX
  clear br bH bX bS bw
  dsimp only
  refine hK.out _ _ cS (fun _ => ?_)
  clear hK K
  refine wpAnyH_imp (S' := fun w' => Two w.heap.size (w.heap.size + 1) h x w' ∧ Held w' b1 P (padL l)) (fun _ hh => hh.1) _ _ _ _ ?_
  refine wpAnyH_take (i := 11) (v := ?_) rfl (by kernel_rfl) (by kernel_rfl) (by kernel_rfl) (fun _ _ _ h => h) (Or.inl ⟨by rfl, ?_⟩) ⟨cS, cp⟩ ?_
  rotate_left
  · intro w hSw
    have kk := hSw.2.seen.str P P hpl.out sp (hsp ())
    clear hSw
    go_simp
    try with_reducible rfl
  simp only [Act.put, List.setIfInBounds_toArray, List.set_cons_zero, List.set_cons_succ]
  try dsimp only
  refine wpAnyH_ready (rs := [13]) (by kernel_rfl) (by simp) ?_
  refine AllReadyH.cons rfl (fun K hK => ?_) AllReadyH.nil
  go_simp
  (with_reducible refine (rpad_at a p cap l P _ hlp.out (by omega) cr (hP ())).mono ?_)
  rintro e we ⟨v, rfl, ho, he⟩
  have er := cr.since he
  have eH := cH.since he
  have eX := cX.since he
  have ew := cw.trans (he.mono cw.size)
  have eS := two_of eH eX
  have ep := cp.since he
  obtain ⟨B, c2, rfl, eq⟩ := ho.seen_at hpl.out
  clear cp ho
  clear cr cH cX cS cw
  dsimp only
  refine hK.out _ _ ⟨eS, ep⟩ (fun _ => ?_)
  clear hK K
  refine wpAnyH_imp (S' := fun w' => Two w.heap.size (w.heap.size + 1) h x w' ∧ Held w' b1 P (padL l) ∧ Seen w' B (padL l)) (fun _ hh => ⟨hh.1, hh.2.1⟩) _ _ _ _ ?_
  refine wpAnyH_take (i := 14) (v := ?_) rfl (by kernel_rfl) (by kernel_rfl) (by kernel_rfl) (fun _ _ _ h => h) (Or.inl ⟨by rfl, ?_⟩) ⟨eS, ep, eq⟩ ?_
  rotate_left
  · intro w hSw
    have kk := hSw.2.2.str P c2 hpl.out sp (hsp ())
    clear hSw
    go_simp
    try with_reducible rfl
  simp only [Act.put, List.setIfInBounds_toArray, List.set_cons_zero, List.set_cons_succ]
  try dsimp only
  refine wpAnyH_take (i := 15) (v := ?_) rfl (by kernel_rfl) (by kernel_rfl) (by kernel_rfl) (fun _ _ _ h => h) (Or.inl ⟨by rfl, ?_⟩) ⟨eS, ep, eq⟩ ?_
  rotate_left
  · intro w hSw
    go_simp
    try with_reducible rfl
  simp only [Act.put, List.setIfInBounds_toArray, List.set_cons_zero, List.set_cons_succ]
  try dsimp only
  refine wpAnyH_take (i := 16) (v := ?_) rfl (by kernel_rfl) (by kernel_rfl) (by kernel_rfl) (fun _ _ _ h => h) (Or.inl ⟨by rfl, ?_⟩) ⟨eS, ep, eq⟩ ?_
  rotate_left
  · intro w hSw
    go_simp
    try with_reducible rfl
  simp only [Act.put, List.setIfInBounds_toArray, List.set_cons_zero, List.set_cons_succ]
  try dsimp only
  refine wpAnyH_take (i := 17) (v := ?_) rfl (by kernel_rfl) (by kernel_rfl) (by kernel_rfl) (fun _ _ _ h => h) (Or.inl ⟨by rfl, ?_⟩) ⟨eS, ep, eq⟩ ?_
  rotate_left
  · intro w hSw
    go_simp
    try with_reducible rfl
  simp only [Act.put, List.setIfInBounds_toArray, List.set_cons_zero, List.set_cons_succ]
  try dsimp only
  refine wpAnyH_take (i := 18) (v := (.agg (cells32 h).toArray)) rfl (by kernel_rfl) (by kernel_rfl) (by kernel_rfl) (fun _ _ _ h => h) (yieldsIf_load_mid (by rfl) _ _ rfl _ _ rfl _ _ (fun w hS => hS.1.1) u8 rfl i8) ⟨eS, ep, eq⟩ ?_
  simp only [Act.put, List.setIfInBounds_toArray, List.set_cons_zero, List.set_cons_succ]
  refine wpAnyH_take (i := 19) (v := (.agg (vals x).toArray)) rfl (by kernel_rfl) (by kernel_rfl) (by kernel_rfl) (fun _ _ _ h => h) (yieldsIf_load_mid (by rfl) _ _ rfl _ _ rfl _ _ (fun w hS => hS.1.2) u64 rfl i64) ⟨eS, ep, eq⟩ ?_
  simp only [Act.put, List.setIfInBounds_toArray, List.set_cons_zero, List.set_cons_succ]
  refine wpAnyH_take (i := 21) (v := (.agg (cells32 h).toArray)) rfl (by kernel_rfl) (by kernel_rfl) (by kernel_rfl) (fun _ _ _ h => h) (yieldsIf_load_mid (by rfl) _ _ rfl _ _ rfl _ _ (fun w hS => hS.1.1) u8 rfl i8) ⟨eS, ep, eq⟩ ?_
  simp only [Act.put, List.setIfInBounds_toArray, List.set_cons_zero, List.set_cons_succ]
  refine wpAnyH_take (i := 22) (v := (.agg (vals x).toArray)) rfl (by kernel_rfl) (by kernel_rfl) (by kernel_rfl) (fun _ _ _ h => h) (yieldsIf_load_mid (by rfl) _ _ rfl _ _ rfl _ _ (fun w hS => hS.1.2) u64 rfl i64) ⟨eS, ep, eq⟩ ?_
  simp only [Act.put, List.setIfInBounds_toArray, List.set_cons_zero, List.set_cons_succ]
  refine wpAnyH_ready (rs := [20]) (by kernel_rfl) (by simp) ?_
  refine AllReadyH.cons rfl (fun K hK => ?_) AllReadyH.nil
  go_simp
  (with_reducible refine (block_ok h x hhl.out hx.out _ (hT0.since ew)).mono ?_)
  rintro e wf ⟨rfl, hf⟩
  have fr := er.since hf
  have fH := eH.since hf
  have fX := eX.since hf
  have fw := ew.trans (hf.mono ew.size)
  have fS := two_of fH fX
  have fp := ep.since hf
  have fq := eq.since hf
  clear ep eq
  clear er eH eX eS ew
  dsimp only
  refine hK.out _ _ ⟨fS, fp, fq⟩ (fun _ => ?_)
  clear hK K
  refine wpAnyH_ready (rs := [23]) (by kernel_rfl) (by simp) ?_
  refine AllReadyH.cons rfl (fun K hK => ?_) AllReadyH.nil
  go_simp
  (with_reducible refine (rblock_ok h x hhl.out hx.out _).mono ?_)
  rintro e wg ⟨rfl, hg⟩
  have gr := fr.since hg
  have gH := fH.since hg
  have gX := fX.since hg
  have gw := fw.trans (hg.mono fw.size)
  have gS := two_of gH gX
  have gp := fp.since hg
  have gq := fq.since hg
  clear fp fq
  clear fr fH fX fS fw
  dsimp only
  refine hK.out _ _ ⟨gS, gp, gq⟩ (fun _ => ?_)
  clear hK K
  refine wpAnyH_take (i := 24) (v := ?_) rfl (by kernel_rfl) (by kernel_rfl) (by kernel_rfl) (fun _ _ _ h => h) (Or.inl ⟨by rfl, ?_⟩) ⟨gS, gp, gq⟩ ?_
  rotate_left
  · intro w hSw
    go_simp
    try with_reducible rfl
  simp only [Act.put, List.setIfInBounds_toArray, List.set_cons_zero, List.set_cons_succ]
  try dsimp only
  refine wpAnyH_take (i := 25) (v := ?_) rfl (by kernel_rfl) (by kernel_rfl) (by kernel_rfl) (fun _ _ _ h => h) (Or.inl ⟨by rfl, ?_⟩) ⟨gS, gp, gq⟩ ?_
  rotate_left
  · intro w hSw
    go_simp
    try with_reducible rfl
  simp only [Act.put, List.setIfInBounds_toArray, List.set_cons_zero, List.set_cons_succ]
  try dsimp only
  refine wpAnyH_take (i := 26) (v := ?_) rfl (by kernel_rfl) (by kernel_rfl) (by kernel_rfl) (fun _ _ _ h => h) (Or.inl ⟨by rfl, ?_⟩) ⟨gS, gp, gq⟩ ?_
  rotate_left
  · intro w hSw
    go_simp
    try with_reducible rfl
  simp only [Act.put, List.setIfInBounds_toArray, List.set_cons_zero, List.set_cons_succ]
  try dsimp only
  refine wpAnyH_ready (rs := [27]) (by kernel_rfl) (by simp) ?_
  refine AllReadyH.cons rfl (fun K hK => ?_) AllReadyH.nil
  go_simp
  (with_reducible refine (start_ok _).mono ?_)
  rintro e wj ⟨rfl, hj⟩
  have jr := gr.since hj
  have jH := gH.since hj
  have jX := gX.since hj
  have jw := gw.trans (hj.mono gw.size)
  have jS := two_of jH jX
  have jp := gp.since hj
  have jq := gq.since hj
  clear gp gq
  clear gr gH gX gS gw
  dsimp only
  refine hK.out _ _ ⟨jS, jp, jq⟩ (fun _ => ?_)
  clear hK K
  refine wpAnyH_ready (rs := [28]) (by kernel_rfl) (by simp) ?_
  refine AllReadyH.cons rfl (fun K hK => ?_) AllReadyH.nil
  go_simp
  (with_reducible refine (rstart_ok _).mono ?_)
  rintro e wk ⟨rfl, hk⟩
  have kr := jr.since hk
  have kH := jH.since hk
  have kX := jX.since hk
  have kw := jw.trans (hk.mono jw.size)
  have kS := two_of kH kX
  have kp := jp.since hk
  have kq := jq.since hk
  clear jp jq
  clear jr jH jX jS jw
  dsimp only
  refine hK.out _ _ ⟨kS, kp, kq⟩ (fun _ => ?_)
  clear hK K
  refine wpAnyH_take (i := 29) (oi := Oper.mk (some 41) _ _ _ _ _) (v := ?_) rfl (by kernel_rfl) (by kernel_rfl) (by kernel_rfl) (fun _ _ _ h => h) (Or.inl ⟨by rfl, ?_⟩) ⟨kS, kp, kq⟩ ?_
  rotate_left
  · intro w hSw
    go_simp
    try with_reducible rfl
  simp only [Act.put, List.setIfInBounds_toArray, List.set_cons_zero, List.set_cons_succ]
  try dsimp only
  refine wpAnyH_take (i := 30) (oi := Oper.mk (some 42) _ _ _ _ _) (v := ?_) rfl (by kernel_rfl) (by kernel_rfl) (by kernel_rfl) (fun _ _ _ h => h) (Or.inl ⟨by rfl, ?_⟩) ⟨kS, kp, kq⟩ ?_
  rotate_left
  · intro w hSw
    go_simp
    try with_reducible rfl
  simp only [Act.put, List.setIfInBounds_toArray, List.set_cons_zero, List.set_cons_succ]
  try dsimp only
  refine wpAnyH_take (i := 31) (oi := Oper.mk (some 6) _ _ _ _ _) (v := ?_) rfl (by kernel_rfl) (by kernel_rfl) (by kernel_rfl) (fun _ _ _ h => h) (Or.inl ⟨by rfl, ?_⟩) ⟨kS, kp, kq⟩ ?_
  rotate_left
  · intro w hSw
    go_simp
    try with_reducible rfl
  simp only [Act.put, List.setIfInBounds_toArray, List.set_cons_zero, List.set_cons_succ]
  try dsimp only
  refine wpAnyH_done (by kernel_rfl) ?_ _
  go_wp2
  go_ret
  exact ⟨rfl, kw⟩

theorem shaAll (a : Option Addr) (len cap : Nat) (z : List Int) (v1 v2 : Value) (w : World) (w0 : Nums .u8 w a len cap z) {b1 b2 : Nat} (w1 : Value.okWide Tryd.prog w .any b1 24 v1) (w2 : Value.okWide Tryd.prog w .any b2 25 v2) (hL : laidMet Tryd.prog [("sidestick/sha.roots", Rows.laid_sidestick_sha_roots)] w) :
    Calls Tryd.prog 3 #[.slice a len cap, v1, v2] w fun e w' => e = .returned (.bool true) ∧ Below w.heap.size w w' := by
  obtain ⟨l, rfl, hl, hcap⟩ := seen_nums w0
  obtain ⟨hz, rfl, hzl, hzw⟩ := ints_came 8 .u32 Tryd.underlying24 Tryd.underlying23 (by kernel_rfl) (by kernel_rfl) w1
  obtain ⟨xz, rfl, xzl, xzw⟩ := ints_came 64 .u8 Tryd.underlying25 Tryd.underlying5 (by kernel_rfl) (by kernel_rfl) w2
  have e1 : hz.map (Value.int .u32) = cells32 (hz.map fun n => UInt32.ofNat n.toNat) := by
    rw [cells32, List.map_map]
    apply List.map_congr_left
    intro n hn
    have hb : 0 ≤ n ∧ n ≤ 4294967295 := by simpa [Lit.wf, IntKind.min, IntKind.max, IntKind.signed, IntKind.bits] using hzw n hn
    show Value.int .u32 n = Value.int .u32 ((UInt32.ofNat n.toNat).toNat : Int)
    congr 1
    rw [UInt32.toNat_ofNat']; omega
  have e2 : xz.map (Value.int .u8) = vals (xz.map fun n => UInt8.ofNat n.toNat) := by
    rw [vals, List.map_map]
    apply List.map_congr_left
    intro n hn
    have hb : 0 ≤ n ∧ n ≤ 255 := by simpa [Lit.wf, IntKind.min, IntKind.max, IntKind.signed, IntKind.bits] using xzw n hn
    show Value.int .u8 n = Value.int .u8 ((UInt8.ofNat n.toNat).toNat : Int)
    congr 1
    rw [UInt8.toNat_ofNat']; omega
  rw [e1, e2]
  exact all_core a _ cap (l.take 300) (min l.length 300) _ _ _ w (hl.take 300) rfl (by simp; omega) hcap rfl (by simp [xzl]) (by simp [hzl]) (table_of hL)
end Go.Proofs.YtjapekiallfaoaaDoor.walks
