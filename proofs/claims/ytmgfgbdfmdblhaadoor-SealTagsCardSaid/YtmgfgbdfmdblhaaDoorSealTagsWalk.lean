/-
  THE WALK OF 'SealTags': a sealed body's end is a tag; with a byte of it turned it is none. (The fourth region's lines are written by program: wip/tools/gen_seal_tags4.py.)
-/
import Derived.Test.YtmgfgbdfmdblhaaDoorSeal
import Derived.Test.YtmgfgbdfmdblhaaDoorMacSame
import Derived.Test.YtmgfgbdfmdblhaaDoorStructEq
import Derived.Deep.CutRange
import Derived.Test.YtmgfgbdfmdblhaaDoorSealTurned
namespace Go.Proofs.YtmgfgbdfmdblhaaDoor.sealTags
open Go.ChangeShapes Go.WideShapes Go.ChangeAt Go.RowKit Go.Proofs.YtmgfgbdfmdblhaaDoor.octets Go.Proofs.YtmgfgbdfmdblhaaDoor.sha Go.Proofs.YtmgfgbdfmdblhaaDoor.mac Go.Proofs.YtmgfgbdfmdblhaaDoor.sealed Go.Proofs.YtmgfgbdfmdblhaaDoor.given Go.Proofs.YtmgfgbdfmdblhaaDoor.pack
set_option linter.unusedVariables false
set_option linter.unusedSimpArgs false

/-- what lies in memory throughout: the key, and what came -/
def St (w : World) (kb : List UInt8) (tv : List Value) (W : World) : Prop := Below w.heap.size w W ∧ Arr W w.heap.size (vals kb) ∧ Arr W (w.heap.size + 1) tv
theorem St.since {w W W' : World} {kb : List UInt8} {tv : List Value} (h : St w kb tv W) (hb : Below W.heap.size W W') : St w kb tv W' := ⟨h.1.trans (hb.mono h.1.size), h.2.1.since hb, h.2.2.since hb⟩
theorem St.lt {w W : World} {kb : List UInt8} {tv : List Value} (h : St w kb tv W) : w.heap.size + 1 < W.heap.size := h.2.2.lt
theorem St.alloc {w W : World} {kb : List UInt8} {tv : List Value} (h : St w kb tv W) (o : Obj) : St w kb tv (W.alloc o) := h.since ((Below.refl _ _).alloc (Nat.le_refl _) _)
/-- and the sealed body -/
def Sg (w : World) (kb : List UInt8) (tv : List Value) (g cc : Nat) (c : List UInt8) (W : World) : Prop := St w kb tv W ∧ Held W g cc c
theorem Sg.since {w W W' : World} {kb : List UInt8} {tv : List Value} {g cc : Nat} {c : List UInt8} (h : Sg w kb tv g cc c W) (hb : Below W.heap.size W W') : Sg w kb tv g cc c W' := ⟨h.1.since hb, h.2.since hb⟩
theorem lit_own (W : World) (us : UInt8) (B : Nat) (hB : B ≤ W.heap.size) : Own (W.alloc (.cells #[.int .u8 77, .int .u8 (us.toNat : Int)] 5)) B (.slice (some ⟨W.heap.size, 0, none⟩) 2 2) [77, us] :=
  (Held.lit W [77, us] #[.int .u8 77, .int .u8 (us.toNat : Int)] (by simp [vals]) (by simp [maxLen])).own hB
theorem elem_u8 : (Tryd.prog).elem 23 = 5 := by simp [Program.elem, Tryd.underlying23]
theorem under_u8 : (Tryd.prog).underlying 23 = some (.slice ((Tryd.prog).elem 23)) := by rw [elem_u8]; exact Tryd.underlying23
theorem seen_drop {w : World} {A : Option Addr} {l : List UInt8} (h : Seen w A l) (i : Nat) : Seen w (A.map (·.add i)) (l.drop i) := by
  intro hn
  have hi : i < l.length := by
    rcases Nat.lt_or_ge i l.length with h0 | h0
    · exact h0
    · exact absurd (List.drop_of_length_le h0) hn
  obtain ⟨b, o, rfl, hb, hc⟩ := h.at_ hi
  refine ⟨b, o + i, ?_, hb, fun j hj => ?_⟩
  · simp only [Option.map_some, Addr.add]
    split
    · rename_i h0; subst h0; rfl
    · rfl
  · have hj' : i + j < l.length := by simp at hj; omega
    rw [Nat.add_assoc, hc _ hj', List.getElem_drop]
theorem cut_l (A : Option Addr) (n c i : Nat) (hi : i ≤ n) (hn : n ≤ c) (x : Int) (hx : x = i) : ∃ A' c', (∀ W, (Instr.slice 23 (.slice A n c) (some (.int .i64 x)) none none).run Tryd.prog W = .ok (.slice A' (n - i) c') W) ∧ n - i ≤ c' ∧
    ∀ (W : World) (l : List UInt8), l.length = n → Seen W A l → Seen W A' (l.drop i) := by
  subst hx
  by_cases h0 : c = i
  · refine ⟨A, c - i, fun W => ?_, by omega, fun W l hl _ => ?_⟩
    · rw [run_slice_l W _ _ _ _ under_u8 .i64 _ (by omega) (by omega), elem_u8, size_u8]
      simp [Result.andThen, sliced, h0]
    · rw [List.drop_of_length_le (by omega)]
      exact Seen.none_ _ _
  · refine ⟨A.map (·.add i), c - i, fun W => ?_, by omega, fun W l _ h => seen_drop h i⟩
    rw [run_slice_l W _ _ _ _ under_u8 .i64 _ (by omega) (by omega), elem_u8, size_u8]
    simp [Result.andThen, sliced, h0]
theorem cut_all8 (g : Nat) (W : World) : (Instr.sliceAt 29 (.pointer (some ⟨g, 0, none⟩)) none none none).run Tryd.prog W = .ok (.slice (some ⟨g, 0, none⟩) 8 8) W := by
  have hl : Tryd.prog.arrayLen 29 = 8 := by simp [Program.arrayLen, Tryd.underlying29]
  have he : Tryd.prog.elem 29 = 5 := by simp [Program.elem, Tryd.underlying29]
  have ht : Tryd.prog.underlying 29 = some (.array (Tryd.prog.arrayLen 29) (Tryd.prog.elem 29)) := by rw [hl, he]; exact Tryd.underlying29
  rw [run_sliceAt_array_all W _ _ ht, he, hl, size_u8]
  simp [Result.andThen, slicedAt, Addr.add]
theorem cut_all32 (g : Nat) (W : World) : (Instr.sliceAt 22 (.pointer (some ⟨g, 0, none⟩)) none none none).run Tryd.prog W = .ok (.slice (some ⟨g, 0, none⟩) 32 32) W := by
  have hl : Tryd.prog.arrayLen 22 = 32 := by simp [Program.arrayLen, Tryd.underlying22]
  have he : Tryd.prog.elem 22 = 5 := by simp [Program.elem, Tryd.underlying22]
  have ht : Tryd.prog.underlying 22 = some (.array (Tryd.prog.arrayLen 22) (Tryd.prog.elem 22)) := by rw [hl, he]; exact Tryd.underlying22
  rw [run_sliceAt_array_all W _ _ ht, he, hl, size_u8]
  simp [Result.andThen, slicedAt, Addr.add]
set_option maxRecDepth 100000 in
set_option maxHeartbeats 4000000 in
theorem tags_core (H : sealed.CodeOk) (A : Option Addr) (n cap q x y : Nat) (kb b : List UInt8) (s : Int) (w : World) (hq : q = min n 60) (hc : n ≤ cap) (hk : kb.length = 32) (hb : b.length = q) (hs : Seen w A b) (hK : Table w) (hx : x < 256) (hy : y < 256) :
    Calls Tryd.prog 3 #[.agg (vals kb).toArray, .int .i64 s, .agg #[.slice A n cap, .int .u8 x, .int .u8 y]] w fun e w' => e = .returned (.bool true) ∧ Below w.heap.size w w' := by
  have hq60 : q ≤ 60 := by omega
  have hcap : q ≤ cap := by omega
  have hb1 : Below w.heap.size w (w.alloc (.cells (vals kb).toArray 22)) := (Below.refl _ _).alloc (Nat.le_refl _) _
  have hS0 : St w kb [.slice A n cap, .int .u8 x, .int .u8 y] ((w.alloc (.cells (vals kb).toArray 22)).alloc (.cells #[.slice A n cap, .int .u8 x, .int .u8 y] 25)) := by
    refine ⟨hb1.alloc hb1.size _, (Arr.new w (vals kb) _).alloc _, ?_⟩
    have := Arr.new_at (w.alloc (.cells (vals kb).toArray 22)) [.slice A n cap, .int .u8 x, .int .u8 y] #[.slice A n cap, .int .u8 x, .int .u8 y] 25 rfl
    rw [World.size_alloc] at this
    exact this
  have hv : Hid ((vals kb).length = 32) := Lib.hid (by rw [vals_len, hk])
  have bs : bits BinOp.and IntKind.i64 s 255 = ((u8i s).toNat : Int) := by rw [u8i_val]; exact and_ones s 8 (by decide)
  generalize hu : u8i s = us at bs
  have lus := UInt8.toNat_lt us
  replace hu := Lib.hid hu
  replace hk := Lib.hid hk
  replace hq := Lib.hid hq
  replace hb := Lib.hid hb
  clear hb1
  go_enter Tryd.func3, Tryd.ntmps3
  try dsimp only [List.append]
  go_wp2_with fail
  have hK0 := hK.since hS0.1
  (with_reducible refine (sealed.shown_any H _ hK0).mono ?_)
  rintro e w1 ⟨rfl, hw1⟩
  have hS1 := hS0.since hw1
  clear hS0 hw1 hK0
  have c0 := hS1.2.2.cell (i := 0) rfl
  have c1 := hS1.2.2.cell (i := 1) rfl
  have c2 := hS1.2.2.cell (i := 2) rfl
  go_wp2_with fail
  (with_reducible refine (sealed.few_ok A n cap q _ hc hq.out).mono ?_)
  rintro e w' ⟨rfl, rfl⟩
  go_wp2_with (guard_target =~ wpList _ _ _ (Oper.mk _ (Op.load 22 (Operand.tmp 3)) _ _ _ _ :: _) _ _; refine wpList_load_arr 32 rfl rfl rfl hS1.2.1 (by kernel_rfl) hv.out ?_)
  refine (H.close kb A q cap b s _ hk.out hb.out hcap (by omega) (hs.since hS1.1) (hK.since hS1.1)).mono ?_
  rintro e w2 ⟨v, rfl, ho, hb2⟩
  have hS2 := hS1.since hb2
  have hlen : (closeB kb s b).length = q + 8 := by rw [closeB_len, hb.out]
  obtain ⟨g, cc, rfl, hg, hh⟩ := ho.held (by omega)
  have hL3 : Hid (([77, us] ++ b).length = q + 2) := Lib.hid (by rw [List.length_append, hb.out]; simp; omega)
  have hM : Hid ((vals (tagB kb ([77, us] ++ b))).length = 8) := Lib.hid (by rw [vals_len, tagB_len])
  have ew : IntKind.u8.wrap (us.toNat : Int) = us.toNat := by rw [IntKind.wrap_u8]; omega
  have hgl : w.heap.size + 1 < g := by have := hS1.lt; omega
  generalize hcc : closeB kb s b = c at hlen hh
  replace hcc := Lib.hid hcc
  rw [hlen]
  replace hlen := Lib.hid hlen
  have hSg : Sg w kb [.slice A n cap, .int .u8 x, .int .u8 y] g cc c w2 := ⟨hS2, hh⟩
  have hbq := hb
  clear ho hS1 c0 c1 c2 hb2 hb hg
  obtain ⟨tv, htv⟩ : ∃ tv, [Value.slice A n cap, .int .u8 x, .int .u8 y] = tv := ⟨_, rfl⟩
  have tv1 : tv[1]? = some (.int .u8 x) := by rw [← htv]; rfl
  have tv2 : tv[2]? = some (.int .u8 y) := by rw [← htv]; rfl
  rw [htv] at hSg hS2
  replace tv1 : Unit → tv[1]? = some (.int .u8 x) := fun _ => tv1
  replace tv2 : Unit → tv[2]? = some (.int .u8 y) := fun _ => tv2
  clear htv
  go_upto_region 4 with fail
  go_cut [10] from 14 to 78 (fun sa W => ∃ q1, sa = .pointer (some ⟨q1, 0, none⟩) ∧ w2.heap.size ≤ q1 ∧ Below w2.heap.size w2 W ∧ Arr W q1 (vals (tagB kb ([77, us] ++ b))))
  case first =>
    have hSd : Sg w kb tv g cc c w2.drew := hSg.since (Below.drew (Below.refl _ _))
    refine wp_region_held_drew (S := Sg w kb tv g cc c) (by kernel_rfl) hSd (fun _ => ?_)
    have hcut := cut_all32 w.heap.size
    refine wpAnyH_take (i := 0) (oi := Oper.mk (some 22) _ _ _ _ _) (v := ?_) rfl (by kernel_rfl) (by kernel_rfl) (by kernel_rfl) (fun _ _ _ h => h) (Or.inl ⟨by rfl, ?_⟩) hSd ?_
    rotate_left
    · intro w hSw
      go_simp
      try with_reducible rfl
    simp only [Act.put, List.setIfInBounds_toArray, List.set_cons_zero, List.set_cons_succ]
    try dsimp only
    refine wpAnyH_take (i := 1) (oi := Oper.mk (some 23) _ _ _ _ _) (v := ?_) rfl (by kernel_rfl) (by kernel_rfl) (by kernel_rfl) (fun _ _ _ h => h) (Or.inl ⟨by rfl, ?_⟩) hSd ?_
    rotate_left
    · intro w hSw
      go_simp
      try with_reducible rfl
    simp only [Act.put, List.setIfInBounds_toArray, List.set_cons_zero, List.set_cons_succ]
    try dsimp only
    refine wpAnyH_take (i := 2) (oi := Oper.mk (some 24) _ _ _ _ _) (v := ?_) rfl (by kernel_rfl) (by kernel_rfl) (by kernel_rfl) (fun _ _ _ h => h) (Or.inl ⟨by rfl, ?_⟩) hSd ?_
    rotate_left
    · intro w hSw
      go_simp
      try with_reducible rfl
    simp only [Act.put, List.setIfInBounds_toArray, List.set_cons_zero, List.set_cons_succ]
    try dsimp only
    refine wpAnyH_take (i := 3) (oi := Oper.mk (some 25) _ _ _ _ _) (v := ?_) rfl (by kernel_rfl) (by kernel_rfl) (by kernel_rfl) (fun _ _ _ h => h) (Or.inl ⟨by rfl, ?_⟩) hSd ?_
    rotate_left
    · intro w hSw
      go_simp
      try with_reducible rfl
    simp only [Act.put, List.setIfInBounds_toArray, List.set_cons_zero, List.set_cons_succ]
    try dsimp only
    refine wpAnyH_take (i := 5) (oi := Oper.mk (some 27) _ _ _ _ _) (v := ?_) rfl (by kernel_rfl) (by kernel_rfl) (by kernel_rfl) (fun _ _ _ h => h) (Or.inl ⟨by rfl, ?_⟩) hSd ?_
    rotate_left
    · intro w hSw
      go_simp
      try with_reducible rfl
    simp only [Act.put, List.setIfInBounds_toArray, List.set_cons_zero, List.set_cons_succ]
    try dsimp only
    try simp only [bs]
    try simp only [ew]
    have hb : Below w2.heap.size w2 w2.drew := Below.drew (Below.refl _ _)
    clear hSd hcut
    generalize w2.drew = V0 at hb ⊢
    refine wpAnyH_ready (rs := [4, 8]) (by kernel_rfl) (by simp) ?_
    refine AllReadyH.cons (o := Oper.mk (some 26) _ _ _ _ _) rfl (fun F hF => ?_) (AllReadyH.cons (o := Oper.mk (some 10) _ _ _ _ _) rfl (fun F hF => ?_) AllReadyH.nil)
    · skip
      go_simp
      have hl := lit_own V0 us w2.heap.size hb.size
      replace hb := hb.alloc hb.size (.cells #[.int .u8 77, .int .u8 (us.toNat : Int)] 5)
      obtain ⟨j, hj⟩ : ∃ j, V0.heap.size = j := ⟨_, rfl⟩
      rw [hj] at hl
      rw [hj]
      try dsimp only
      refine hF.out _ _ (hSg.since hb) (fun _ => ?_)
      clear hF F hj
      generalize V0.alloc (.cells #[.int .u8 77, .int .u8 (us.toNat : Int)] 5) = V1 at hb hl ⊢
      refine wpAnyH_ready (rs := [6, 8]) (by kernel_rfl) (by simp) ?_
      refine AllReadyH.cons (o := Oper.mk (some 28) _ _ _ _ _) rfl (fun F hF => ?_) (AllReadyH.cons (o := Oper.mk (some 10) _ _ _ _ _) rfl (fun F hF => ?_) AllReadyH.nil)
      · skip
        rw [if_pos (by rfl)]
        obtain ⟨v3, V2, hrun, ho3, hg3, hat3⟩ := append_own V1 w2.heap.size 23 _ [77, us] hl A b cap (hs.since (hSg.1.1.trans (hb.mono hSg.1.1.size))) (by rw [hbq.out]; simp; omega) hb.size
        rw [hbq.out] at hrun
        
        refine Lib.wp_append_run V1 _ _ _ _ rfl _ _ rfl rfl v3 V2 hrun ?_
        replace hb := hl.grew hb (Nat.le_refl _) hb.size hg3
        clear hg3 hat3 hrun hl
        obtain ⟨A3, c3, rfl, hc3, s3⟩ := own_cap ho3 hL3.out
        simp only [Act.put, List.setIfInBounds_toArray, List.set_cons_zero, List.set_cons_succ]
        refine hF.out _ _ (hSg.since hb) (fun _ => ?_)
        clear hF F ho3
        refine wpAnyH_ready (rs := [7, 8]) (by kernel_rfl) (by simp) ?_
        refine AllReadyH.cons (o := Oper.mk (some 29) _ _ _ _ _) rfl (fun F hF => ?_) (AllReadyH.cons (o := Oper.mk (some 10) _ _ _ _ _) rfl (fun F hF => ?_) AllReadyH.nil)
        · skip
          go_simp
          have hkey := Arr.seen (hSg.since hb).1.2.1
          have hK1 := hK.since (hSg.1.1.trans (hb.mono hSg.1.1.size))
          (with_reducible refine (tag_ok (some ⟨w.heap.size, 0, none⟩) A3 32 32 (q + 2) c3 kb _ _ hk.out hL3.out (by decide) (by omega) hkey s3 hK1).mono ?_)
          rintro e V3 ⟨rfl, hb1⟩
          replace hb := hb.trans (hb1.mono hb.size)
          try dsimp only
          refine hF.out _ _ (hSg.since hb) (fun _ => ?_)
          clear hF F hb1 s3 hkey hK1
          refine wpAnyH_ready (rs := [8]) (by kernel_rfl) (by simp) ?_
          refine AllReadyH.cons (o := Oper.mk (some 10) _ _ _ _ _) rfl (fun F hF => ?_) AllReadyH.nil
          go_simp
          have hQ := Arr.new_at V3 z8b #[.int .u8 0, .int .u8 0, .int .u8 0, .int .u8 0, .int .u8 0, .int .u8 0, .int .u8 0, .int .u8 0] 29 rfl
          have hqz : w2.heap.size ≤ V3.heap.size := hb.size
          have hn : Below V3.heap.size V3 (V3.alloc (.cells #[.int .u8 0, .int .u8 0, .int .u8 0, .int .u8 0, .int .u8 0, .int .u8 0, .int .u8 0, .int .u8 0] 29)) := (Below.refl _ _).alloc (Nat.le_refl _) _
          replace hb := hb.trans (hn.mono hb.size)
          obtain ⟨q1, hq1⟩ : ∃ q1, V3.heap.size = q1 := ⟨_, rfl⟩
          rw [hq1] at hQ hqz
          rw [hq1]
          try dsimp only
          refine hF.out _ _ (hSg.since hb) (fun _ => ?_)
          clear hF F hq1 hn
          generalize V3.alloc (.cells #[.int .u8 0, .int .u8 0, .int .u8 0, .int .u8 0, .int .u8 0, .int .u8 0, .int .u8 0, .int .u8 0] 29) = V4 at hb hQ ⊢
          refine wpAnyH_ready (rs := [9]) (by kernel_rfl) (by simp) ?_
          refine AllReadyH.cons (o := Oper.mk (none) _ _ _ _ _) rfl (fun F hF => ?_) AllReadyH.nil
          refine wp_store_arr (cs' := vals (tagB kb ([77, us] ++ b))) 8 rfl rfl rfl hQ (by kernel_rfl) rfl hM.out (vals_one _) ?_
          intro V5 hR ho1 hb1 hs1
          replace hb := hb.trans (hb1.mono hqz)
          try dsimp only
          refine hF.out _ _ (hSg.since hb) (fun _ => ?_)
          clear hF F
          refine wpAnyH_done (by kernel_rfl) ?_ _
          go_wp2
          go_meet
          exact ⟨q1, rfl, hqz, hb, hR⟩
        · skip
          go_simp
          have hQ := Arr.new_at V2 z8b #[.int .u8 0, .int .u8 0, .int .u8 0, .int .u8 0, .int .u8 0, .int .u8 0, .int .u8 0, .int .u8 0] 29 rfl
          have hqz : w2.heap.size ≤ V2.heap.size := hb.size
          have hn : Below V2.heap.size V2 (V2.alloc (.cells #[.int .u8 0, .int .u8 0, .int .u8 0, .int .u8 0, .int .u8 0, .int .u8 0, .int .u8 0, .int .u8 0] 29)) := (Below.refl _ _).alloc (Nat.le_refl _) _
          replace hb := hb.trans (hn.mono hb.size)
          replace s3 := s3.since hn
          obtain ⟨q1, hq1⟩ : ∃ q1, V2.heap.size = q1 := ⟨_, rfl⟩
          rw [hq1] at hQ hqz
          rw [hq1]
          try dsimp only
          refine hF.out _ _ (hSg.since hb) (fun _ => ?_)
          clear hF F hq1 hn
          generalize V2.alloc (.cells #[.int .u8 0, .int .u8 0, .int .u8 0, .int .u8 0, .int .u8 0, .int .u8 0, .int .u8 0, .int .u8 0] 29) = V3 at hb hQ s3 ⊢
          refine wpAnyH_ready (rs := [7]) (by kernel_rfl) (by simp) ?_
          refine AllReadyH.cons (o := Oper.mk (some 29) _ _ _ _ _) rfl (fun F hF => ?_) AllReadyH.nil
          go_simp
          have hkey := Arr.seen (hSg.since hb).1.2.1
          have hK1 := hK.since (hSg.1.1.trans (hb.mono hSg.1.1.size))
          (with_reducible refine (tag_ok (some ⟨w.heap.size, 0, none⟩) A3 32 32 (q + 2) c3 kb _ _ hk.out hL3.out (by decide) (by omega) hkey s3 hK1).mono ?_)
          rintro e V4 ⟨rfl, hb1⟩
          replace hb := hb.trans (hb1.mono hb.size)
          replace hQ := hQ.since hb1
          try dsimp only
          refine hF.out _ _ (hSg.since hb) (fun _ => ?_)
          clear hF F hb1 s3 hkey hK1
          refine wpAnyH_ready (rs := [9]) (by kernel_rfl) (by simp) ?_
          refine AllReadyH.cons (o := Oper.mk (none) _ _ _ _ _) rfl (fun F hF => ?_) AllReadyH.nil
          refine wp_store_arr (cs' := vals (tagB kb ([77, us] ++ b))) 8 rfl rfl rfl hQ (by kernel_rfl) rfl hM.out (vals_one _) ?_
          intro V5 hR ho1 hb1 hs1
          replace hb := hb.trans (hb1.mono hqz)
          try dsimp only
          refine hF.out _ _ (hSg.since hb) (fun _ => ?_)
          clear hF F
          refine wpAnyH_done (by kernel_rfl) ?_ _
          go_wp2
          go_meet
          exact ⟨q1, rfl, hqz, hb, hR⟩
      · skip
        go_simp
        have hQ := Arr.new_at V1 z8b #[.int .u8 0, .int .u8 0, .int .u8 0, .int .u8 0, .int .u8 0, .int .u8 0, .int .u8 0, .int .u8 0] 29 rfl
        have hqz : w2.heap.size ≤ V1.heap.size := hb.size
        have hn : Below V1.heap.size V1 (V1.alloc (.cells #[.int .u8 0, .int .u8 0, .int .u8 0, .int .u8 0, .int .u8 0, .int .u8 0, .int .u8 0, .int .u8 0] 29)) := (Below.refl _ _).alloc (Nat.le_refl _) _
        replace hb := hb.trans (hn.mono hb.size)
        have hqW : j < V1.heap.size := (hl.lt rfl).2
        replace hl := hl.since hn
        obtain ⟨q1, hq1⟩ : ∃ q1, V1.heap.size = q1 := ⟨_, rfl⟩
        rw [hq1] at hQ hqz
        rw [hq1]
        have hqj : q1 ≠ j := by omega
        clear hqW
        try dsimp only
        refine hF.out _ _ (hSg.since hb) (fun _ => ?_)
        clear hF F hq1 hn
        generalize V1.alloc (.cells #[.int .u8 0, .int .u8 0, .int .u8 0, .int .u8 0, .int .u8 0, .int .u8 0, .int .u8 0, .int .u8 0] 29) = V2 at hb hQ hl ⊢
        refine wpAnyH_ready (rs := [6]) (by kernel_rfl) (by simp) ?_
        refine AllReadyH.cons (o := Oper.mk (some 28) _ _ _ _ _) rfl (fun F hF => ?_) AllReadyH.nil
        rw [if_pos (by rfl)]
        obtain ⟨v3, V3, hrun, ho3, hg3, hat3⟩ := append_own V2 w2.heap.size 23 _ [77, us] hl A b cap (hs.since (hSg.1.1.trans (hb.mono hSg.1.1.size))) (by rw [hbq.out]; simp; omega) hb.size
        rw [hbq.out] at hrun
        
        refine Lib.wp_append_run V2 _ _ _ _ rfl _ _ rfl rfl v3 V3 hrun ?_
        replace hb := hl.grew hb (Nat.le_refl _) hb.size hg3
        replace hQ := hQ.of_block (hg3.block _ hQ.lt (fun e => hqj (Option.some.inj e)))
        clear hg3 hat3 hrun hl
        obtain ⟨A3, c3, rfl, hc3, s3⟩ := own_cap ho3 hL3.out
        simp only [Act.put, List.setIfInBounds_toArray, List.set_cons_zero, List.set_cons_succ]
        refine hF.out _ _ (hSg.since hb) (fun _ => ?_)
        clear hF F ho3
        refine wpAnyH_ready (rs := [7]) (by kernel_rfl) (by simp) ?_
        refine AllReadyH.cons (o := Oper.mk (some 29) _ _ _ _ _) rfl (fun F hF => ?_) AllReadyH.nil
        go_simp
        have hkey := Arr.seen (hSg.since hb).1.2.1
        have hK1 := hK.since (hSg.1.1.trans (hb.mono hSg.1.1.size))
        (with_reducible refine (tag_ok (some ⟨w.heap.size, 0, none⟩) A3 32 32 (q + 2) c3 kb _ _ hk.out hL3.out (by decide) (by omega) hkey s3 hK1).mono ?_)
        rintro e V4 ⟨rfl, hb1⟩
        replace hb := hb.trans (hb1.mono hb.size)
        replace hQ := hQ.since hb1
        try dsimp only
        refine hF.out _ _ (hSg.since hb) (fun _ => ?_)
        clear hF F hb1 s3 hkey hK1
        refine wpAnyH_ready (rs := [9]) (by kernel_rfl) (by simp) ?_
        refine AllReadyH.cons (o := Oper.mk (none) _ _ _ _ _) rfl (fun F hF => ?_) AllReadyH.nil
        refine wp_store_arr (cs' := vals (tagB kb ([77, us] ++ b))) 8 rfl rfl rfl hQ (by kernel_rfl) rfl hM.out (vals_one _) ?_
        intro V5 hR ho1 hb1 hs1
        replace hb := hb.trans (hb1.mono hqz)
        try dsimp only
        refine hF.out _ _ (hSg.since hb) (fun _ => ?_)
        clear hF F
        refine wpAnyH_done (by kernel_rfl) ?_ _
        go_wp2
        go_meet
        exact ⟨q1, rfl, hqz, hb, hR⟩
    · skip
      go_simp
      have hQ := Arr.new_at V0 z8b #[.int .u8 0, .int .u8 0, .int .u8 0, .int .u8 0, .int .u8 0, .int .u8 0, .int .u8 0, .int .u8 0] 29 rfl
      have hqz : w2.heap.size ≤ V0.heap.size := hb.size
      have hn : Below V0.heap.size V0 (V0.alloc (.cells #[.int .u8 0, .int .u8 0, .int .u8 0, .int .u8 0, .int .u8 0, .int .u8 0, .int .u8 0, .int .u8 0] 29)) := (Below.refl _ _).alloc (Nat.le_refl _) _
      replace hb := hb.trans (hn.mono hb.size)
      obtain ⟨q1, hq1⟩ : ∃ q1, V0.heap.size = q1 := ⟨_, rfl⟩
      rw [hq1] at hQ hqz
      rw [hq1]
      try dsimp only
      refine hF.out _ _ (hSg.since hb) (fun _ => ?_)
      clear hF F hq1 hn
      generalize V0.alloc (.cells #[.int .u8 0, .int .u8 0, .int .u8 0, .int .u8 0, .int .u8 0, .int .u8 0, .int .u8 0, .int .u8 0] 29) = V1 at hb hQ ⊢
      refine wpAnyH_ready (rs := [4]) (by kernel_rfl) (by simp) ?_
      refine AllReadyH.cons (o := Oper.mk (some 26) _ _ _ _ _) rfl (fun F hF => ?_) AllReadyH.nil
      go_simp
      have hl := lit_own V1 us w2.heap.size hb.size
      replace hb := hb.alloc hb.size (.cells #[.int .u8 77, .int .u8 (us.toNat : Int)] 5)
      have hqW := hQ.lt
      replace hQ := hQ.alloc (.cells #[.int .u8 77, .int .u8 (us.toNat : Int)] 5)
      obtain ⟨j, hj⟩ : ∃ j, V1.heap.size = j := ⟨_, rfl⟩
      rw [hj] at hl
      rw [hj]
      have hqj : q1 ≠ j := by omega
      clear hqW
      try dsimp only
      refine hF.out _ _ (hSg.since hb) (fun _ => ?_)
      clear hF F hj
      generalize V1.alloc (.cells #[.int .u8 77, .int .u8 (us.toNat : Int)] 5) = V2 at hb hl hQ ⊢
      refine wpAnyH_ready (rs := [6]) (by kernel_rfl) (by simp) ?_
      refine AllReadyH.cons (o := Oper.mk (some 28) _ _ _ _ _) rfl (fun F hF => ?_) AllReadyH.nil
      rw [if_pos (by rfl)]
      obtain ⟨v3, V3, hrun, ho3, hg3, hat3⟩ := append_own V2 w2.heap.size 23 _ [77, us] hl A b cap (hs.since (hSg.1.1.trans (hb.mono hSg.1.1.size))) (by rw [hbq.out]; simp; omega) hb.size
      rw [hbq.out] at hrun
      
      refine Lib.wp_append_run V2 _ _ _ _ rfl _ _ rfl rfl v3 V3 hrun ?_
      replace hb := hl.grew hb (Nat.le_refl _) hb.size hg3
      replace hQ := hQ.of_block (hg3.block _ hQ.lt (fun e => hqj (Option.some.inj e)))
      clear hg3 hat3 hrun hl
      obtain ⟨A3, c3, rfl, hc3, s3⟩ := own_cap ho3 hL3.out
      simp only [Act.put, List.setIfInBounds_toArray, List.set_cons_zero, List.set_cons_succ]
      refine hF.out _ _ (hSg.since hb) (fun _ => ?_)
      clear hF F ho3
      refine wpAnyH_ready (rs := [7]) (by kernel_rfl) (by simp) ?_
      refine AllReadyH.cons (o := Oper.mk (some 29) _ _ _ _ _) rfl (fun F hF => ?_) AllReadyH.nil
      go_simp
      have hkey := Arr.seen (hSg.since hb).1.2.1
      have hK1 := hK.since (hSg.1.1.trans (hb.mono hSg.1.1.size))
      (with_reducible refine (tag_ok (some ⟨w.heap.size, 0, none⟩) A3 32 32 (q + 2) c3 kb _ _ hk.out hL3.out (by decide) (by omega) hkey s3 hK1).mono ?_)
      rintro e V4 ⟨rfl, hb1⟩
      replace hb := hb.trans (hb1.mono hb.size)
      replace hQ := hQ.since hb1
      try dsimp only
      refine hF.out _ _ (hSg.since hb) (fun _ => ?_)
      clear hF F hb1 s3 hkey hK1
      refine wpAnyH_ready (rs := [9]) (by kernel_rfl) (by simp) ?_
      refine AllReadyH.cons (o := Oper.mk (none) _ _ _ _ _) rfl (fun F hF => ?_) AllReadyH.nil
      refine wp_store_arr (cs' := vals (tagB kb ([77, us] ++ b))) 8 rfl rfl rfl hQ (by kernel_rfl) rfl hM.out (vals_one _) ?_
      intro V5 hR ho1 hb1 hs1
      replace hb := hb.trans (hb1.mono hqz)
      try dsimp only
      refine hF.out _ _ (hSg.since hb) (fun _ => ?_)
      clear hF F
      refine wpAnyH_done (by kernel_rfl) ?_ _
      go_wp2
      go_meet
      exact ⟨q1, rfl, hqz, hb, hR⟩
  -- BEHIND 4
  case rest =>
  obtain ⟨q1, rfl, hqz, hb, hR⟩ := hcut
  have hdrop : c.drop q = tagB kb ([77, us] ++ b) := by
    rw [← hcc.out, closeB, ← hbq.out, List.drop_left, hu.out]
    rfl
  have hq1g : g < q1 := Nat.lt_of_lt_of_le hSg.2.lt hqz
  have hSw := hSg.since hb
  have hccq : q + 8 ≤ cc := by have := hSw.2.1; rw [hlen.out] at this; exact this
  obtain ⟨A5, c5, hcut5, hc5, s5⟩ := cut_l (some ⟨g, 0, none⟩) (q + 8) cc q (by omega) hccq (q : Int) rfl
  rw [Nat.add_sub_cancel_left] at hcut5 hc5
  have hs5 := s5 wc c hlen.out hSw.2.seen
  rw [hdrop] at hs5
  have hsR := Arr.seen hR
  generalize tagB kb ([77, us] ++ b) = T at hdrop hs5 hR hsR hM
  have hTl : T.length = 8 := by rw [← vals_len]; exact hM.out
  obtain ⟨sT, hsT⟩ : ∃ s : ByteArray, s = ⟨T.toArray⟩ := ⟨_, rfl⟩
  have t1 := fun k => (hs5.drewN k).str 8 c5 hTl sT hsT
  have t2 := fun k => (hsR.drewN k).str 8 8 hTl sT hsT
  have t3 := cut_all8 q1
  have e8 : IntKind.i64.wrap ((q : Int) + 8) = (q : Int) + 8 := by rw [IntKind.wrap_i64]; omega
  replace hsT : Unit → sT = ⟨T.toArray⟩ := fun _ => hsT
  have c1 := fun k => (hSw.1.2.2.drewN k).cell (tv1 ())
  have x1 : IntKind.i64.wrap (x : Int) = x := by rw [IntKind.wrap_i64]; omega
  have x2 : Int.tmod (x : Int) 8 = ((x % 8 : Nat) : Int) := by rw [Int.tmod_eq_emod_of_nonneg (by omega)]; omega
  have x3 : IntKind.i64.wrap ((q : Int) + ((x % 8 : Nat) : Int)) = ((q + x % 8 : Nat) : Int) := by rw [IntKind.wrap_i64]; omega
  have hx8 : x % 8 < 8 := by omega
  generalize x % 8 = i at x2 x3 hx8
  obtain ⟨p, hp⟩ : ∃ p, q + i = p := ⟨_, rfl⟩
  have hpq : p < q + 8 := by omega
  rw [hp] at x3
  replace hp := Lib.hid hp
  replace hTl := Lib.hid hTl
  replace hdrop := Lib.hid hdrop
  clear hs5 hsR s5 hb hSg hS2 hqz
  go_wp2_with fail
  go_quiet (fail)
  go_wp2_with fail
  have hSn : Sg w kb tv g cc c (wc.drewN nq) := hSw.since (below_drawn (Below.refl _ _) nq)
  clear hSw c1 t1 t2 t3 hcut5 hR
  generalize wc.drewN nq = W at hSn ⊢
  obtain ⟨u, hu'⟩ : ∃ u, c[p]? = some u := ⟨_, List.getElem?_eq_getElem (by rw [hlen.out]; omega)⟩
  have hlt : p < c.length := by rw [hlen.out]; omega
  have hue : c[p] = u := by rw [List.getElem?_eq_getElem hlt] at hu'; exact Option.some.inj hu'
  have y1 : Int.tmod (y : Int) 255 = ((y % 255 : Nat) : Int) := by rw [Int.tmod_eq_emod_of_nonneg (by omega)]; omega
  have y2 : IntKind.u8.wrap (1 + ((y % 255 : Nat) : Int)) = ((1 + y % 255 : Nat) : Int) := by rw [IntKind.wrap_u8]; omega
  have hz : (1 + UInt8.ofNat y % 255).toNat = 1 + y % 255 := by
    rw [UInt8.toNat_add, UInt8.toNat_mod, UInt8.toNat_ofNat', Nat.mod_eq_of_lt hy, show (255 : UInt8).toNat = 255 from rfl, show (1 : UInt8).toNat = 1 from rfl]
    omega
  have y3 : bits BinOp.xor IntKind.u8 (u.toNat : Int) ((1 + y % 255 : Nat) : Int) = ((u ^^^ (1 + UInt8.ofNat y % 255)).toNat : Int) := by
    rw [u8_xor_nat _ _ u.toNat_lt (by omega), UInt8.toNat_xor, hz]
  have hne := turn_ne u (UInt8.ofNat y)
  generalize u ^^^ (1 + UInt8.ofNat y % 255) = u2 at y3 hne
  clear hz
  generalize 1 + y % 255 = y4 at y2 y3
  generalize y % 255 = y5 at y1 y2
  have c2 : W.drew.cell? ⟨w.heap.size + 1, 2, none⟩ = some (.int .u8 (y : Int)) := hSn.1.2.2.cell (tv2 ())
  have cz : W.drew.cell? ⟨g, p, none⟩ = some (.int .u8 (u.toNat : Int)) := by rw [← hue]; exact hSn.2.cell hlt
  have hf : W.drew.frozen? ⟨g, p, none⟩ = false := hSn.2.frozen _
  replace hu' := Lib.hid hu'
  replace hue := Lib.hid hue
  have hix2 : (p : Int) < (q : Int) + 8 := by omega
  refine wp_region_still_tail 12 (by kernel_rfl) (by kernel_rfl) ?_
  simp only [List.take_succ_cons, List.take_zero, List.drop_succ_cons, List.drop_zero]
  repeat still_step
  refine wpStill_nil ?_
  change wpList _ _ _ _ _ W.drew
  have he : Hid (openB kb s (c.set p u2) = none) := Lib.hid (by
    have := open_turned kb s b i u u2 hx8 (by rw [hcc.out, hbq.out, hp.out]; exact hu'.out) hne
    rw [hcc.out, hbq.out, hp.out] at this
    exact this)
  have hset := (show Held W.drew g cc c from hSn.2).set p u2
  have hA : Arr (W.drew.setCell ⟨g, p, none⟩ (.int .u8 (u2.toNat : Int))) w.heap.size (vals kb) := hSn.1.2.1.drew.other (by show w.heap.size ≠ g; omega) _
  have hbw : Below w.heap.size w (W.drew.setCell ⟨g, p, none⟩ (.int .u8 (u2.toNat : Int))) := hSn.1.1.drew.setCell (by show w.heap.size ≤ g; omega) _
  have hl2 : Hid ((c.set p u2).length = q + 8) := Lib.hid (by rw [List.length_set]; exact hlen.out)
  go_wp2_with (guard_target =~ wpList _ _ _ (Oper.mk _ (Op.load 22 (Operand.tmp 3)) _ _ _ _ :: _) _ _; refine wpList_load_arr 32 rfl rfl rfl hA (by kernel_rfl) hv.out ?_)
  refine (H.open_no kb (some ⟨g, 0, none⟩) (q + 8) cc (c.set p u2) s _ hk.out hl2.out hccq (by omega) hset.seen (hK.since hbw) he.out).mono ?_
  rintro e w9 ⟨v9, rfl, ho9, hb9⟩
  have hbz := hbw.trans (hb9.mono hbw.size)
  clear hset hA hbw ho9 hb9 cz c2 hf hSn
  go_wp2_with fail
  go_ret
  exact ⟨by simp, hbz⟩
theorem wf8 {n : Int} (h : (Lit.int .u8 n).wf = true) : ∃ k : Nat, n = k ∧ k < 256 := by
  have hb : 0 ≤ n ∧ n ≤ 255 := by simpa [Lit.wf, IntKind.min, IntKind.max, IntKind.signed, IntKind.bits] using h
  exact ⟨n.toNat, by omega, by omega⟩
theorem bytes_came {zs : List Int} (h : ∀ z ∈ zs, (Lit.int .u8 z).wf = true) : ∃ l : List UInt8, l.length = zs.length ∧ zs.map (Value.int .u8) = vals l := by
  refine ⟨zs.map fun z => UInt8.ofNat z.toNat, by simp, ?_⟩
  unfold vals
  rw [List.map_map]
  refine List.map_congr_left fun z hz => ?_
  have hb : 0 ≤ z ∧ z ≤ 255 := by simpa [Lit.wf, IntKind.min, IntKind.max, IntKind.signed, IntKind.bits] using h z hz
  show Value.int .u8 z = .int .u8 ((UInt8.ofNat z.toNat).toNat : Int)
  rw [UInt8.toNat_ofNat']
  congr 1
  omega
theorem tags_given (H : sealed.CodeOk) (v : Value) (s : Int) (v2 : Value) (w : World) {base base' : Nat} (h0 : Value.okWide Tryd.prog w .any base 22 v) (h2 : Value.okWide Tryd.prog w .any base' 25 v2) (c2 : CameIn Tryd.prog w 25 v2) (hK : Table w) :
    Calls Tryd.prog 3 #[v, .int .i64 s, v2] w fun e w' => e = .returned (.bool true) ∧ Below w.heap.size w w' := by
  obtain ⟨zs, rfl, hzl, hzw⟩ := ints_came 32 .u8 Tryd.underlying22 Tryd.underlying5 (by kernel_rfl) (by kernel_rfl) h0
  obtain ⟨kb, hkl, hkv⟩ := bytes_came hzw
  rw [hkv]
  obtain ⟨a, len, cap, z, x, y, rfl, hz, hx, hy⟩ := turned_came h2 c2
  obtain ⟨l, rfl, hl, hcap⟩ := seen_nums hz
  obtain ⟨x', rfl, hx'⟩ := wf8 hx
  obtain ⟨y', rfl, hy'⟩ := wf8 hy
  exact tags_core H a _ cap _ x' y' kb (l.take 60) s w rfl hcap (by omega) (by simp; omega) (hl.take 60) hK hx' hy'
end Go.Proofs.YtmgfgbdfmdblhaaDoor.sealTags
