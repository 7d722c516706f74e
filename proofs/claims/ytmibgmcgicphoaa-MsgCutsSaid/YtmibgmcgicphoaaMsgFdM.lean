/-
  THE CONTRACTS OF messageFields AND replyFields. (Written by program: wip/tools/gen_msg_fields.py.)
-/
import Derived.Test.YtmibgmcgicphoaaMsgFds
import Derived.Test.YtmibgmcgicphoaaMsgVal
import Derived.Lib.AppendZeros
namespace Go.Proofs.Ytmibgmcgicphoaa.msg
open Go.RowKit Go.Proofs.Ytmibgmcgicphoaa.octets Go.Proofs.Ytmibgmcgicphoaa.pack
set_option linter.unusedVariables false
set_option linter.unusedSimpArgs false

def okS (m : M) : Prop := True
def okT (r : R) : Prop := r.nonce.length = 8
theorem plKind : Place mv okS 0 (·.kind) (fun n s => { s with kind := n }) := ⟨fun s _ => by simp [mv], fun s _ => rfl, fun s n _ => ⟨rfl, trivial⟩⟩
theorem plSeq : Place mv okS 1 (·.seq) (fun n s => { s with seq := n }) := ⟨fun s _ => by simp [mv], fun s _ => rfl, fun s n _ => ⟨rfl, trivial⟩⟩
theorem plRole : Place mv okS 2 (·.role) (fun n s => { s with role := n }) := ⟨fun s _ => by simp [mv], fun s _ => rfl, fun s n _ => ⟨rfl, trivial⟩⟩
theorem plTo : Place mv okS 3 (·.to_) (fun n s => { s with to_ := n }) := ⟨fun s _ => by simp [mv], fun s _ => rfl, fun s n _ => ⟨rfl, trivial⟩⟩
theorem plEpoch : Place mv okS 4 (·.epoch) (fun n s => { s with epoch := n }) := ⟨fun s _ => by simp [mv], fun s _ => rfl, fun s n _ => ⟨rfl, trivial⟩⟩
theorem plMode : Place mv okS 5 (·.mode) (fun n s => { s with mode := n }) := ⟨fun s _ => by simp [mv], fun s _ => rfl, fun s n _ => ⟨rfl, trivial⟩⟩
theorem plCls : Place mv okS 6 (·.cls) (fun n s => { s with cls := n }) := ⟨fun s _ => by simp [mv], fun s _ => rfl, fun s n _ => ⟨rfl, trivial⟩⟩
theorem plNow : PlaceB mv okS 7 (·.now) (fun n s => { s with now := n }) := ⟨fun s _ => by simp [mv], fun s _ => rfl, fun s n _ => ⟨rfl, trivial⟩⟩
theorem plX0 : Place mv okS 8 (·.x0) (fun n s => { s with x0 := n }) := ⟨fun s _ => by simp [mv], fun s _ => rfl, fun s n _ => ⟨rfl, trivial⟩⟩
theorem plX1 : Place mv okS 9 (·.x1) (fun n s => { s with x1 := n }) := ⟨fun s _ => by simp [mv], fun s _ => rfl, fun s n _ => ⟨rfl, trivial⟩⟩
theorem plX2 : Place mv okS 10 (·.x2) (fun n s => { s with x2 := n }) := ⟨fun s _ => by simp [mv], fun s _ => rfl, fun s n _ => ⟨rfl, trivial⟩⟩
theorem plX3 : Place mv okS 11 (·.x3) (fun n s => { s with x3 := n }) := ⟨fun s _ => by simp [mv], fun s _ => rfl, fun s n _ => ⟨rfl, trivial⟩⟩
theorem prKind : Place rv okT 0 (·.kind) (fun n s => { s with kind := n }) := ⟨fun s _ => by simp [rv], fun s _ => rfl, fun s n h => ⟨rfl, h⟩⟩
theorem prSeq : Place rv okT 1 (·.seq) (fun n s => { s with seq := n }) := ⟨fun s _ => by simp [rv], fun s _ => rfl, fun s n h => ⟨rfl, h⟩⟩
theorem prRole : Place rv okT 2 (·.role) (fun n s => { s with role := n }) := ⟨fun s _ => by simp [rv], fun s _ => rfl, fun s n h => ⟨rfl, h⟩⟩
theorem prWho : Place rv okT 3 (·.who) (fun n s => { s with who := n }) := ⟨fun s _ => by simp [rv], fun s _ => rfl, fun s n h => ⟨rfl, h⟩⟩
theorem prEpoch : Place rv okT 4 (·.epoch) (fun n s => { s with epoch := n }) := ⟨fun s _ => by simp [rv], fun s _ => rfl, fun s n h => ⟨rfl, h⟩⟩
theorem prCode : Place rv okT 5 (·.code) (fun n s => { s with code := n }) := ⟨fun s _ => by simp [rv], fun s _ => rfl, fun s n h => ⟨rfl, h⟩⟩
theorem prNonce : PlaceN rv okT 6 (·.nonce) (fun n s => { s with nonce := n }) := by
  refine ⟨fun s h => by rw [rv_len s h]; decide, fun s h => h, fun s h j hj => ?_, fun s l h hl => ⟨?_, hl⟩⟩
  · rw [rv, List.getElem?_append_right (by simp)]
    show (vals s.nonce)[6 + j - 6]? = _
    rw [Nat.add_sub_cancel_left, vals_get hj]
  · have h2 : (rv s).drop (6 + 8) = [] := List.drop_of_length_le (by rw [rv_len s h]; decide)
    have h3 : (rv s).take 6 = [.int .i64 s.kind, .int .i64 s.seq, .int .i64 s.role, .int .i64 s.who, .int .i64 s.epoch, .int .i64 s.code] := rfl
    rw [h2, h3, List.append_nil]
    rfl
section
variable {S : Type} {enc : S → List Value} {good : S → Prop} {g : Nat}
theorem Own3.lit {base : Nat} {W : World} {ds : List (FD S)} {vs : List Value} (h : Fds enc good g (fun b => base ≤ b) W ds vs) (hb : base ≤ W.heap.size) (n : Nat) (hn : ds.length = n) (hm : n ≤ maxLen) (C : Array Value) (e : C = vs.toArray) : Own3 enc good g base (W.alloc (.cells C 66)) (.slice (some ⟨W.heap.size, 0, none⟩) n n) ds := by
  subst hn e
  have hl := h.len
  refine ⟨vs, ⟨hl, .inr ⟨W.heap.size, ds.length, vs.toArray, rfl, hb, Go.Deep.blk_alloc_new _ _, Nat.le_refl _, hm, by simpa using hl, ?_⟩⟩, ?_⟩
  · rw [List.take_of_length_le (by simp; omega)]
  · exact h.keep (Keeps.of_below ((Below.refl _ _).alloc (Nat.le_refl _) _)) fun b hl hb => ⟨hb, fun e => by simp [Value.ownBlock] at e; omega⟩
/-- a row of fields, begun and gone on with; each was made by a call of its own -/
theorem Fds.cons {base : Nat} {W0 W : World} {d : FD S} {ds : List (FD S)} {us ts : List Value} (h : FieldAt enc good g (fun b => W0.heap.size ≤ b) W d us) (hb : base ≤ W0.heap.size) (hs : Fds enc good g (fun b => base ≤ b) W ds ts) : Fds enc good g (fun b => base ≤ b) W (d :: ds) (us ++ ts) :=
  ⟨us, ts, rfl, h.keep (Keeps.refl _ _) fun b _ hb' => Nat.le_trans hb hb', hs⟩
end
set_option maxRecDepth 100000 in
set_option maxHeartbeats 2000000 in
theorem messageFields_1 (g : Nat) (w : World) (c0 : w.cell? ⟨g, 0, none⟩ = some (.int .i64 1)) (hg : g < w.heap.size) :
    Calls Try.prog 22 #[.pointer (some ⟨g, 0, none⟩)] w fun e w' => ∃ v, e = .returned v ∧ Own3 mv okS g w.heap.size w' v (fdM 1) ∧ Below w.heap.size w w' := by
  go_enter Try.func22, Try.ntmps22
  go_wp2_with fail
  have hb0 : Below w.heap.size w w.drew := Below.drew (Below.refl _ _)
  refine wp_region_held_drew (S := (fun _ => True)) (by kernel_rfl) trivial (fun _ => ?_)
  refine wpAnyH_take (i := 0) (oi := Oper.mk (some 10) _ _ _ _ _) (v := ?_) rfl (by kernel_rfl) (by kernel_rfl) (by kernel_rfl) (fun _ _ _ h => h) (Or.inl ⟨by rfl, ?_⟩) trivial ?_
  rotate_left
  · intro w hSw
    go_simp
    try with_reducible rfl
  simp only [Act.put, List.setIfInBounds_toArray, List.set_cons_zero, List.set_cons_succ]
  try dsimp only
  refine wpAnyH_take (i := 1) (oi := Oper.mk (some 11) _ _ _ _ _) (v := ?_) rfl (by kernel_rfl) (by kernel_rfl) (by kernel_rfl) (fun _ _ _ h => h) (Or.inl ⟨by rfl, ?_⟩) trivial ?_
  rotate_left
  · intro w hSw
    go_simp
    try with_reducible rfl
  simp only [Act.put, List.setIfInBounds_toArray, List.set_cons_zero, List.set_cons_succ]
  try dsimp only
  refine wpAnyH_take (i := 2) (oi := Oper.mk (some 12) _ _ _ _ _) (v := ?_) rfl (by kernel_rfl) (by kernel_rfl) (by kernel_rfl) (fun _ _ _ h => h) (Or.inl ⟨by rfl, ?_⟩) trivial ?_
  rotate_left
  · intro w hSw
    go_simp
    try with_reducible rfl
  simp only [Act.put, List.setIfInBounds_toArray, List.set_cons_zero, List.set_cons_succ]
  try dsimp only
  refine wpAnyH_take (i := 4) (oi := Oper.mk (some 14) _ _ _ _ _) (v := ?_) rfl (by kernel_rfl) (by kernel_rfl) (by kernel_rfl) (fun _ _ _ h => h) (Or.inl ⟨by rfl, ?_⟩) trivial ?_
  rotate_left
  · intro w hSw
    go_simp
    try with_reducible rfl
  simp only [Act.put, List.setIfInBounds_toArray, List.set_cons_zero, List.set_cons_succ]
  try dsimp only
  refine wpAnyH_take (i := 5) (oi := Oper.mk (some 15) _ _ _ _ _) (v := ?_) rfl (by kernel_rfl) (by kernel_rfl) (by kernel_rfl) (fun _ _ _ h => h) (Or.inl ⟨by rfl, ?_⟩) trivial ?_
  rotate_left
  · intro w hSw
    go_simp
    try with_reducible rfl
  simp only [Act.put, List.setIfInBounds_toArray, List.set_cons_zero, List.set_cons_succ]
  try dsimp only
  refine wpAnyH_take (i := 6) (oi := Oper.mk (some 16) _ _ _ _ _) (v := ?_) rfl (by kernel_rfl) (by kernel_rfl) (by kernel_rfl) (fun _ _ _ h => h) (Or.inl ⟨by rfl, ?_⟩) trivial ?_
  rotate_left
  · intro w hSw
    go_simp
    try with_reducible rfl
  simp only [Act.put, List.setIfInBounds_toArray, List.set_cons_zero, List.set_cons_succ]
  try dsimp only
  refine wpAnyH_ready (rs := [3]) (by kernel_rfl) (by simp) ?_
  refine AllReadyH.cons (o := Oper.mk (some 13) _ _ _ _ _) rfl (fun F hF => ?_) AllReadyH.nil
  go_simp
  refine (kind_fd plKind g w.drew hg).mono ?_
  intro e w1 hm
  obtain ⟨k1, f1, e1, rfl, q1, q1', hF1, hn1⟩ := hm.open_
  clear hm
  have hz0 := hb0.size
  have hb1 := hb0.trans (hn1.mono hz0)
  clear hn1
  try dsimp only
  refine hF.out _ _ trivial (fun _ => ?_)
  clear hF F
  refine wpAnyH_ready (rs := [7]) (by kernel_rfl) (by simp) ?_
  refine AllReadyH.cons (o := Oper.mk (some 17) _ _ _ _ _) rfl (fun F hF => ?_) AllReadyH.nil
  go_simp
  refine (role_fd plRole g w1 (Nat.lt_of_lt_of_le hg hb1.size)).mono ?_
  intro e w2 hm
  obtain ⟨k2, f2, e2, rfl, q2, q2', hF2, hn2⟩ := hm.open_
  clear hm
  have hz1 := hb1.size
  have hb2 := hb1.trans (hn2.mono hz1)
  replace hF1 := hF1.since hn2
  clear hn2
  try dsimp only
  refine hF.out _ _ trivial (fun _ => ?_)
  clear hF F
  have hF : Fds mv okS g (fun b => w.heap.size ≤ b) w2 [fKind, fRole] _ := (Fds.cons hF1 hz0 (Fds.cons hF2 hz1 (rfl : Fds mv okS g (fun b => w.heap.size ≤ b) w2 [] [])))
  have hzn := hb2.size
  have hO := Own3.lit hF hzn 2 rfl (by decide) #[.int .i64 k1, f1, e1, .int .i64 k2, f2, e2] rfl
  have hbn : Below w.heap.size w (w2.alloc (.cells #[.int .i64 k1, f1, e1, .int .i64 k2, f2, e2] 66)) := hb2.alloc hzn _
  clear hF hF1 hF2
  refine wpAnyH_ready (rs := [8]) (by kernel_rfl) (by simp) ?_
  refine AllReadyH.cons (o := Oper.mk (some 18) _ _ _ _ _) rfl (fun F hF => ?_) AllReadyH.nil
  go_simp
  try dsimp only
  refine hF.out _ _ trivial (fun _ => ?_)
  clear hF F
  refine wpAnyH_take (i := 9) (oi := Oper.mk (some 2) _ _ _ _ _) (v := ?_) rfl (by kernel_rfl) (by kernel_rfl) (by kernel_rfl) (fun _ _ _ h => h) (Or.inl ⟨by rfl, ?_⟩) trivial ?_
  rotate_left
  · intro w hSw
    go_simp
    try with_reducible rfl
  simp only [Act.put, List.setIfInBounds_toArray, List.set_cons_zero, List.set_cons_succ]
  try dsimp only
  refine wpAnyH_done (by kernel_rfl) ?_ _
  go_wp2
  go_ret
  exact ⟨_, rfl, hO, hbn⟩
set_option maxRecDepth 100000 in
set_option maxHeartbeats 2000000 in
theorem messageFields_2 (g : Nat) (w : World) (c0 : w.cell? ⟨g, 0, none⟩ = some (.int .i64 2)) (hg : g < w.heap.size) :
    Calls Try.prog 22 #[.pointer (some ⟨g, 0, none⟩)] w fun e w' => ∃ v, e = .returned v ∧ Own3 mv okS g w.heap.size w' v (fdM 2) ∧ Below w.heap.size w w' := by
  go_enter Try.func22, Try.ntmps22
  go_wp2_with fail
  have hb0 : Below w.heap.size w w.drew := Below.drew (Below.refl _ _)
  refine wp_region_held_drew (S := (fun _ => True)) (by kernel_rfl) trivial (fun _ => ?_)
  refine wpAnyH_take (i := 0) (oi := Oper.mk (some 10) _ _ _ _ _) (v := ?_) rfl (by kernel_rfl) (by kernel_rfl) (by kernel_rfl) (fun _ _ _ h => h) (Or.inl ⟨by rfl, ?_⟩) trivial ?_
  rotate_left
  · intro w hSw
    go_simp
    try with_reducible rfl
  simp only [Act.put, List.setIfInBounds_toArray, List.set_cons_zero, List.set_cons_succ]
  try dsimp only
  refine wpAnyH_take (i := 1) (oi := Oper.mk (some 11) _ _ _ _ _) (v := ?_) rfl (by kernel_rfl) (by kernel_rfl) (by kernel_rfl) (fun _ _ _ h => h) (Or.inl ⟨by rfl, ?_⟩) trivial ?_
  rotate_left
  · intro w hSw
    go_simp
    try with_reducible rfl
  simp only [Act.put, List.setIfInBounds_toArray, List.set_cons_zero, List.set_cons_succ]
  try dsimp only
  refine wpAnyH_take (i := 2) (oi := Oper.mk (some 12) _ _ _ _ _) (v := ?_) rfl (by kernel_rfl) (by kernel_rfl) (by kernel_rfl) (fun _ _ _ h => h) (Or.inl ⟨by rfl, ?_⟩) trivial ?_
  rotate_left
  · intro w hSw
    go_simp
    try with_reducible rfl
  simp only [Act.put, List.setIfInBounds_toArray, List.set_cons_zero, List.set_cons_succ]
  try dsimp only
  refine wpAnyH_take (i := 4) (oi := Oper.mk (some 14) _ _ _ _ _) (v := ?_) rfl (by kernel_rfl) (by kernel_rfl) (by kernel_rfl) (fun _ _ _ h => h) (Or.inl ⟨by rfl, ?_⟩) trivial ?_
  rotate_left
  · intro w hSw
    go_simp
    try with_reducible rfl
  simp only [Act.put, List.setIfInBounds_toArray, List.set_cons_zero, List.set_cons_succ]
  try dsimp only
  refine wpAnyH_take (i := 5) (oi := Oper.mk (some 15) _ _ _ _ _) (v := ?_) rfl (by kernel_rfl) (by kernel_rfl) (by kernel_rfl) (fun _ _ _ h => h) (Or.inl ⟨by rfl, ?_⟩) trivial ?_
  rotate_left
  · intro w hSw
    go_simp
    try with_reducible rfl
  simp only [Act.put, List.setIfInBounds_toArray, List.set_cons_zero, List.set_cons_succ]
  try dsimp only
  refine wpAnyH_take (i := 6) (oi := Oper.mk (some 16) _ _ _ _ _) (v := ?_) rfl (by kernel_rfl) (by kernel_rfl) (by kernel_rfl) (fun _ _ _ h => h) (Or.inl ⟨by rfl, ?_⟩) trivial ?_
  rotate_left
  · intro w hSw
    go_simp
    try with_reducible rfl
  simp only [Act.put, List.setIfInBounds_toArray, List.set_cons_zero, List.set_cons_succ]
  try dsimp only
  refine wpAnyH_ready (rs := [3]) (by kernel_rfl) (by simp) ?_
  refine AllReadyH.cons (o := Oper.mk (some 13) _ _ _ _ _) rfl (fun F hF => ?_) AllReadyH.nil
  go_simp
  refine (kind_fd plKind g w.drew hg).mono ?_
  intro e w1 hm
  obtain ⟨k1, f1, e1, rfl, q1, q1', hF1, hn1⟩ := hm.open_
  clear hm
  have hz0 := hb0.size
  have hb1 := hb0.trans (hn1.mono hz0)
  clear hn1
  try dsimp only
  refine hF.out _ _ trivial (fun _ => ?_)
  clear hF F
  refine wpAnyH_ready (rs := [7]) (by kernel_rfl) (by simp) ?_
  refine AllReadyH.cons (o := Oper.mk (some 17) _ _ _ _ _) rfl (fun F hF => ?_) AllReadyH.nil
  go_simp
  refine (role_fd plRole g w1 (Nat.lt_of_lt_of_le hg hb1.size)).mono ?_
  intro e w2 hm
  obtain ⟨k2, f2, e2, rfl, q2, q2', hF2, hn2⟩ := hm.open_
  clear hm
  have hz1 := hb1.size
  have hb2 := hb1.trans (hn2.mono hz1)
  replace hF1 := hF1.since hn2
  clear hn2
  try dsimp only
  refine hF.out _ _ trivial (fun _ => ?_)
  clear hF F
  have hF : Fds mv okS g (fun b => w.heap.size ≤ b) w2 [fKind, fRole] _ := (Fds.cons hF1 hz0 (Fds.cons hF2 hz1 (rfl : Fds mv okS g (fun b => w.heap.size ≤ b) w2 [] [])))
  have hzn := hb2.size
  have hO := Own3.lit hF hzn 2 rfl (by decide) #[.int .i64 k1, f1, e1, .int .i64 k2, f2, e2] rfl
  have hbn : Below w.heap.size w (w2.alloc (.cells #[.int .i64 k1, f1, e1, .int .i64 k2, f2, e2] 66)) := hb2.alloc hzn _
  clear hF hF1 hF2
  refine wpAnyH_ready (rs := [8]) (by kernel_rfl) (by simp) ?_
  refine AllReadyH.cons (o := Oper.mk (some 18) _ _ _ _ _) rfl (fun F hF => ?_) AllReadyH.nil
  go_simp
  try dsimp only
  refine hF.out _ _ trivial (fun _ => ?_)
  clear hF F
  refine wpAnyH_take (i := 9) (oi := Oper.mk (some 2) _ _ _ _ _) (v := ?_) rfl (by kernel_rfl) (by kernel_rfl) (by kernel_rfl) (fun _ _ _ h => h) (Or.inl ⟨by rfl, ?_⟩) trivial ?_
  rotate_left
  · intro w hSw
    go_simp
    try with_reducible rfl
  simp only [Act.put, List.setIfInBounds_toArray, List.set_cons_zero, List.set_cons_succ]
  try dsimp only
  refine wpAnyH_done (by kernel_rfl) ?_ _
  go_wp2
  go_ret
  exact ⟨_, rfl, hO, hbn⟩
set_option maxRecDepth 100000 in
set_option maxHeartbeats 2000000 in
theorem messageFields_3 (g : Nat) (w : World) (c0 : w.cell? ⟨g, 0, none⟩ = some (.int .i64 3)) (hg : g < w.heap.size) :
    Calls Try.prog 22 #[.pointer (some ⟨g, 0, none⟩)] w fun e w' => ∃ v, e = .returned v ∧ Own3 mv okS g w.heap.size w' v (fdM 3) ∧ Below w.heap.size w w' := by
  go_enter Try.func22, Try.ntmps22
  go_wp2_with fail
  have hb0 : Below w.heap.size w w.drew := Below.drew (Below.refl _ _)
  refine wp_region_held_drew (S := (fun _ => True)) (by kernel_rfl) trivial (fun _ => ?_)
  refine wpAnyH_take (i := 0) (oi := Oper.mk (some 24) _ _ _ _ _) (v := ?_) rfl (by kernel_rfl) (by kernel_rfl) (by kernel_rfl) (fun _ _ _ h => h) (Or.inl ⟨by rfl, ?_⟩) trivial ?_
  rotate_left
  · intro w hSw
    go_simp
    try with_reducible rfl
  simp only [Act.put, List.setIfInBounds_toArray, List.set_cons_zero, List.set_cons_succ]
  try dsimp only
  refine wpAnyH_take (i := 1) (oi := Oper.mk (some 25) _ _ _ _ _) (v := ?_) rfl (by kernel_rfl) (by kernel_rfl) (by kernel_rfl) (fun _ _ _ h => h) (Or.inl ⟨by rfl, ?_⟩) trivial ?_
  rotate_left
  · intro w hSw
    go_simp
    try with_reducible rfl
  simp only [Act.put, List.setIfInBounds_toArray, List.set_cons_zero, List.set_cons_succ]
  try dsimp only
  refine wpAnyH_take (i := 2) (oi := Oper.mk (some 26) _ _ _ _ _) (v := ?_) rfl (by kernel_rfl) (by kernel_rfl) (by kernel_rfl) (fun _ _ _ h => h) (Or.inl ⟨by rfl, ?_⟩) trivial ?_
  rotate_left
  · intro w hSw
    go_simp
    try with_reducible rfl
  simp only [Act.put, List.setIfInBounds_toArray, List.set_cons_zero, List.set_cons_succ]
  try dsimp only
  refine wpAnyH_take (i := 4) (oi := Oper.mk (some 28) _ _ _ _ _) (v := ?_) rfl (by kernel_rfl) (by kernel_rfl) (by kernel_rfl) (fun _ _ _ h => h) (Or.inl ⟨by rfl, ?_⟩) trivial ?_
  rotate_left
  · intro w hSw
    go_simp
    try with_reducible rfl
  simp only [Act.put, List.setIfInBounds_toArray, List.set_cons_zero, List.set_cons_succ]
  try dsimp only
  refine wpAnyH_take (i := 5) (oi := Oper.mk (some 29) _ _ _ _ _) (v := ?_) rfl (by kernel_rfl) (by kernel_rfl) (by kernel_rfl) (fun _ _ _ h => h) (Or.inl ⟨by rfl, ?_⟩) trivial ?_
  rotate_left
  · intro w hSw
    go_simp
    try with_reducible rfl
  simp only [Act.put, List.setIfInBounds_toArray, List.set_cons_zero, List.set_cons_succ]
  try dsimp only
  refine wpAnyH_take (i := 6) (oi := Oper.mk (some 30) _ _ _ _ _) (v := ?_) rfl (by kernel_rfl) (by kernel_rfl) (by kernel_rfl) (fun _ _ _ h => h) (Or.inl ⟨by rfl, ?_⟩) trivial ?_
  rotate_left
  · intro w hSw
    go_simp
    try with_reducible rfl
  simp only [Act.put, List.setIfInBounds_toArray, List.set_cons_zero, List.set_cons_succ]
  try dsimp only
  refine wpAnyH_ready (rs := [3]) (by kernel_rfl) (by simp) ?_
  refine AllReadyH.cons (o := Oper.mk (some 27) _ _ _ _ _) rfl (fun F hF => ?_) AllReadyH.nil
  go_simp
  refine (kind_fd plKind g w.drew hg).mono ?_
  intro e w1 hm
  obtain ⟨k1, f1, e1, rfl, q1, q1', hF1, hn1⟩ := hm.open_
  clear hm
  have hz0 := hb0.size
  have hb1 := hb0.trans (hn1.mono hz0)
  clear hn1
  try dsimp only
  refine hF.out _ _ trivial (fun _ => ?_)
  clear hF F
  refine wpAnyH_ready (rs := [7]) (by kernel_rfl) (by simp) ?_
  refine AllReadyH.cons (o := Oper.mk (some 31) _ _ _ _ _) rfl (fun F hF => ?_) AllReadyH.nil
  go_simp
  refine (seq_fd plSeq g w1 (Nat.lt_of_lt_of_le hg hb1.size)).mono ?_
  intro e w2 hm
  obtain ⟨k2, f2, e2, rfl, q2, q2', hF2, hn2⟩ := hm.open_
  clear hm
  have hz1 := hb1.size
  have hb2 := hb1.trans (hn2.mono hz1)
  replace hF1 := hF1.since hn2
  clear hn2
  try dsimp only
  refine hF.out _ _ trivial (fun _ => ?_)
  clear hF F
  have hF : Fds mv okS g (fun b => w.heap.size ≤ b) w2 [fKind, fSeq] _ := (Fds.cons hF1 hz0 (Fds.cons hF2 hz1 (rfl : Fds mv okS g (fun b => w.heap.size ≤ b) w2 [] [])))
  have hzn := hb2.size
  have hO := Own3.lit hF hzn 2 rfl (by decide) #[.int .i64 k1, f1, e1, .int .i64 k2, f2, e2] rfl
  have hbn : Below w.heap.size w (w2.alloc (.cells #[.int .i64 k1, f1, e1, .int .i64 k2, f2, e2] 66)) := hb2.alloc hzn _
  clear hF hF1 hF2
  refine wpAnyH_ready (rs := [8]) (by kernel_rfl) (by simp) ?_
  refine AllReadyH.cons (o := Oper.mk (some 32) _ _ _ _ _) rfl (fun F hF => ?_) AllReadyH.nil
  go_simp
  try dsimp only
  refine hF.out _ _ trivial (fun _ => ?_)
  clear hF F
  refine wpAnyH_take (i := 9) (oi := Oper.mk (some 2) _ _ _ _ _) (v := ?_) rfl (by kernel_rfl) (by kernel_rfl) (by kernel_rfl) (fun _ _ _ h => h) (Or.inl ⟨by rfl, ?_⟩) trivial ?_
  rotate_left
  · intro w hSw
    go_simp
    try with_reducible rfl
  simp only [Act.put, List.setIfInBounds_toArray, List.set_cons_zero, List.set_cons_succ]
  try dsimp only
  refine wpAnyH_done (by kernel_rfl) ?_ _
  go_wp2
  go_ret
  exact ⟨_, rfl, hO, hbn⟩
set_option maxRecDepth 100000 in
set_option maxHeartbeats 2000000 in
theorem messageFields_4 (g : Nat) (w : World) (c0 : w.cell? ⟨g, 0, none⟩ = some (.int .i64 4)) (hg : g < w.heap.size) :
    Calls Try.prog 22 #[.pointer (some ⟨g, 0, none⟩)] w fun e w' => ∃ v, e = .returned v ∧ Own3 mv okS g w.heap.size w' v (fdM 4) ∧ Below w.heap.size w w' := by
  go_enter Try.func22, Try.ntmps22
  go_wp2_with fail
  have hb0 : Below w.heap.size w w.drew := Below.drew (Below.refl _ _)
  refine wp_region_held_drew (S := (fun _ => True)) (by kernel_rfl) trivial (fun _ => ?_)
  refine wpAnyH_take (i := 0) (oi := Oper.mk (some 24) _ _ _ _ _) (v := ?_) rfl (by kernel_rfl) (by kernel_rfl) (by kernel_rfl) (fun _ _ _ h => h) (Or.inl ⟨by rfl, ?_⟩) trivial ?_
  rotate_left
  · intro w hSw
    go_simp
    try with_reducible rfl
  simp only [Act.put, List.setIfInBounds_toArray, List.set_cons_zero, List.set_cons_succ]
  try dsimp only
  refine wpAnyH_take (i := 1) (oi := Oper.mk (some 25) _ _ _ _ _) (v := ?_) rfl (by kernel_rfl) (by kernel_rfl) (by kernel_rfl) (fun _ _ _ h => h) (Or.inl ⟨by rfl, ?_⟩) trivial ?_
  rotate_left
  · intro w hSw
    go_simp
    try with_reducible rfl
  simp only [Act.put, List.setIfInBounds_toArray, List.set_cons_zero, List.set_cons_succ]
  try dsimp only
  refine wpAnyH_take (i := 2) (oi := Oper.mk (some 26) _ _ _ _ _) (v := ?_) rfl (by kernel_rfl) (by kernel_rfl) (by kernel_rfl) (fun _ _ _ h => h) (Or.inl ⟨by rfl, ?_⟩) trivial ?_
  rotate_left
  · intro w hSw
    go_simp
    try with_reducible rfl
  simp only [Act.put, List.setIfInBounds_toArray, List.set_cons_zero, List.set_cons_succ]
  try dsimp only
  refine wpAnyH_take (i := 4) (oi := Oper.mk (some 28) _ _ _ _ _) (v := ?_) rfl (by kernel_rfl) (by kernel_rfl) (by kernel_rfl) (fun _ _ _ h => h) (Or.inl ⟨by rfl, ?_⟩) trivial ?_
  rotate_left
  · intro w hSw
    go_simp
    try with_reducible rfl
  simp only [Act.put, List.setIfInBounds_toArray, List.set_cons_zero, List.set_cons_succ]
  try dsimp only
  refine wpAnyH_take (i := 5) (oi := Oper.mk (some 29) _ _ _ _ _) (v := ?_) rfl (by kernel_rfl) (by kernel_rfl) (by kernel_rfl) (fun _ _ _ h => h) (Or.inl ⟨by rfl, ?_⟩) trivial ?_
  rotate_left
  · intro w hSw
    go_simp
    try with_reducible rfl
  simp only [Act.put, List.setIfInBounds_toArray, List.set_cons_zero, List.set_cons_succ]
  try dsimp only
  refine wpAnyH_take (i := 6) (oi := Oper.mk (some 30) _ _ _ _ _) (v := ?_) rfl (by kernel_rfl) (by kernel_rfl) (by kernel_rfl) (fun _ _ _ h => h) (Or.inl ⟨by rfl, ?_⟩) trivial ?_
  rotate_left
  · intro w hSw
    go_simp
    try with_reducible rfl
  simp only [Act.put, List.setIfInBounds_toArray, List.set_cons_zero, List.set_cons_succ]
  try dsimp only
  refine wpAnyH_ready (rs := [3]) (by kernel_rfl) (by simp) ?_
  refine AllReadyH.cons (o := Oper.mk (some 27) _ _ _ _ _) rfl (fun F hF => ?_) AllReadyH.nil
  go_simp
  refine (kind_fd plKind g w.drew hg).mono ?_
  intro e w1 hm
  obtain ⟨k1, f1, e1, rfl, q1, q1', hF1, hn1⟩ := hm.open_
  clear hm
  have hz0 := hb0.size
  have hb1 := hb0.trans (hn1.mono hz0)
  clear hn1
  try dsimp only
  refine hF.out _ _ trivial (fun _ => ?_)
  clear hF F
  refine wpAnyH_ready (rs := [7]) (by kernel_rfl) (by simp) ?_
  refine AllReadyH.cons (o := Oper.mk (some 31) _ _ _ _ _) rfl (fun F hF => ?_) AllReadyH.nil
  go_simp
  refine (seq_fd plSeq g w1 (Nat.lt_of_lt_of_le hg hb1.size)).mono ?_
  intro e w2 hm
  obtain ⟨k2, f2, e2, rfl, q2, q2', hF2, hn2⟩ := hm.open_
  clear hm
  have hz1 := hb1.size
  have hb2 := hb1.trans (hn2.mono hz1)
  replace hF1 := hF1.since hn2
  clear hn2
  try dsimp only
  refine hF.out _ _ trivial (fun _ => ?_)
  clear hF F
  have hF : Fds mv okS g (fun b => w.heap.size ≤ b) w2 [fKind, fSeq] _ := (Fds.cons hF1 hz0 (Fds.cons hF2 hz1 (rfl : Fds mv okS g (fun b => w.heap.size ≤ b) w2 [] [])))
  have hzn := hb2.size
  have hO := Own3.lit hF hzn 2 rfl (by decide) #[.int .i64 k1, f1, e1, .int .i64 k2, f2, e2] rfl
  have hbn : Below w.heap.size w (w2.alloc (.cells #[.int .i64 k1, f1, e1, .int .i64 k2, f2, e2] 66)) := hb2.alloc hzn _
  clear hF hF1 hF2
  refine wpAnyH_ready (rs := [8]) (by kernel_rfl) (by simp) ?_
  refine AllReadyH.cons (o := Oper.mk (some 32) _ _ _ _ _) rfl (fun F hF => ?_) AllReadyH.nil
  go_simp
  try dsimp only
  refine hF.out _ _ trivial (fun _ => ?_)
  clear hF F
  refine wpAnyH_take (i := 9) (oi := Oper.mk (some 2) _ _ _ _ _) (v := ?_) rfl (by kernel_rfl) (by kernel_rfl) (by kernel_rfl) (fun _ _ _ h => h) (Or.inl ⟨by rfl, ?_⟩) trivial ?_
  rotate_left
  · intro w hSw
    go_simp
    try with_reducible rfl
  simp only [Act.put, List.setIfInBounds_toArray, List.set_cons_zero, List.set_cons_succ]
  try dsimp only
  refine wpAnyH_done (by kernel_rfl) ?_ _
  go_wp2
  go_ret
  exact ⟨_, rfl, hO, hbn⟩
set_option maxRecDepth 100000 in
set_option maxHeartbeats 2000000 in
theorem messageFields_8 (g : Nat) (w : World) (c0 : w.cell? ⟨g, 0, none⟩ = some (.int .i64 8)) (hg : g < w.heap.size) :
    Calls Try.prog 22 #[.pointer (some ⟨g, 0, none⟩)] w fun e w' => ∃ v, e = .returned v ∧ Own3 mv okS g w.heap.size w' v (fdM 8) ∧ Below w.heap.size w w' := by
  go_enter Try.func22, Try.ntmps22
  go_wp2_with fail
  have hb0 : Below w.heap.size w w.drew := Below.drew (Below.refl _ _)
  refine wp_region_held_drew (S := (fun _ => True)) (by kernel_rfl) trivial (fun _ => ?_)
  refine wpAnyH_take (i := 0) (oi := Oper.mk (some 24) _ _ _ _ _) (v := ?_) rfl (by kernel_rfl) (by kernel_rfl) (by kernel_rfl) (fun _ _ _ h => h) (Or.inl ⟨by rfl, ?_⟩) trivial ?_
  rotate_left
  · intro w hSw
    go_simp
    try with_reducible rfl
  simp only [Act.put, List.setIfInBounds_toArray, List.set_cons_zero, List.set_cons_succ]
  try dsimp only
  refine wpAnyH_take (i := 1) (oi := Oper.mk (some 25) _ _ _ _ _) (v := ?_) rfl (by kernel_rfl) (by kernel_rfl) (by kernel_rfl) (fun _ _ _ h => h) (Or.inl ⟨by rfl, ?_⟩) trivial ?_
  rotate_left
  · intro w hSw
    go_simp
    try with_reducible rfl
  simp only [Act.put, List.setIfInBounds_toArray, List.set_cons_zero, List.set_cons_succ]
  try dsimp only
  refine wpAnyH_take (i := 2) (oi := Oper.mk (some 26) _ _ _ _ _) (v := ?_) rfl (by kernel_rfl) (by kernel_rfl) (by kernel_rfl) (fun _ _ _ h => h) (Or.inl ⟨by rfl, ?_⟩) trivial ?_
  rotate_left
  · intro w hSw
    go_simp
    try with_reducible rfl
  simp only [Act.put, List.setIfInBounds_toArray, List.set_cons_zero, List.set_cons_succ]
  try dsimp only
  refine wpAnyH_take (i := 4) (oi := Oper.mk (some 28) _ _ _ _ _) (v := ?_) rfl (by kernel_rfl) (by kernel_rfl) (by kernel_rfl) (fun _ _ _ h => h) (Or.inl ⟨by rfl, ?_⟩) trivial ?_
  rotate_left
  · intro w hSw
    go_simp
    try with_reducible rfl
  simp only [Act.put, List.setIfInBounds_toArray, List.set_cons_zero, List.set_cons_succ]
  try dsimp only
  refine wpAnyH_take (i := 5) (oi := Oper.mk (some 29) _ _ _ _ _) (v := ?_) rfl (by kernel_rfl) (by kernel_rfl) (by kernel_rfl) (fun _ _ _ h => h) (Or.inl ⟨by rfl, ?_⟩) trivial ?_
  rotate_left
  · intro w hSw
    go_simp
    try with_reducible rfl
  simp only [Act.put, List.setIfInBounds_toArray, List.set_cons_zero, List.set_cons_succ]
  try dsimp only
  refine wpAnyH_take (i := 6) (oi := Oper.mk (some 30) _ _ _ _ _) (v := ?_) rfl (by kernel_rfl) (by kernel_rfl) (by kernel_rfl) (fun _ _ _ h => h) (Or.inl ⟨by rfl, ?_⟩) trivial ?_
  rotate_left
  · intro w hSw
    go_simp
    try with_reducible rfl
  simp only [Act.put, List.setIfInBounds_toArray, List.set_cons_zero, List.set_cons_succ]
  try dsimp only
  refine wpAnyH_ready (rs := [3]) (by kernel_rfl) (by simp) ?_
  refine AllReadyH.cons (o := Oper.mk (some 27) _ _ _ _ _) rfl (fun F hF => ?_) AllReadyH.nil
  go_simp
  refine (kind_fd plKind g w.drew hg).mono ?_
  intro e w1 hm
  obtain ⟨k1, f1, e1, rfl, q1, q1', hF1, hn1⟩ := hm.open_
  clear hm
  have hz0 := hb0.size
  have hb1 := hb0.trans (hn1.mono hz0)
  clear hn1
  try dsimp only
  refine hF.out _ _ trivial (fun _ => ?_)
  clear hF F
  refine wpAnyH_ready (rs := [7]) (by kernel_rfl) (by simp) ?_
  refine AllReadyH.cons (o := Oper.mk (some 31) _ _ _ _ _) rfl (fun F hF => ?_) AllReadyH.nil
  go_simp
  refine (seq_fd plSeq g w1 (Nat.lt_of_lt_of_le hg hb1.size)).mono ?_
  intro e w2 hm
  obtain ⟨k2, f2, e2, rfl, q2, q2', hF2, hn2⟩ := hm.open_
  clear hm
  have hz1 := hb1.size
  have hb2 := hb1.trans (hn2.mono hz1)
  replace hF1 := hF1.since hn2
  clear hn2
  try dsimp only
  refine hF.out _ _ trivial (fun _ => ?_)
  clear hF F
  have hF : Fds mv okS g (fun b => w.heap.size ≤ b) w2 [fKind, fSeq] _ := (Fds.cons hF1 hz0 (Fds.cons hF2 hz1 (rfl : Fds mv okS g (fun b => w.heap.size ≤ b) w2 [] [])))
  have hzn := hb2.size
  have hO := Own3.lit hF hzn 2 rfl (by decide) #[.int .i64 k1, f1, e1, .int .i64 k2, f2, e2] rfl
  have hbn : Below w.heap.size w (w2.alloc (.cells #[.int .i64 k1, f1, e1, .int .i64 k2, f2, e2] 66)) := hb2.alloc hzn _
  clear hF hF1 hF2
  refine wpAnyH_ready (rs := [8]) (by kernel_rfl) (by simp) ?_
  refine AllReadyH.cons (o := Oper.mk (some 32) _ _ _ _ _) rfl (fun F hF => ?_) AllReadyH.nil
  go_simp
  try dsimp only
  refine hF.out _ _ trivial (fun _ => ?_)
  clear hF F
  refine wpAnyH_take (i := 9) (oi := Oper.mk (some 2) _ _ _ _ _) (v := ?_) rfl (by kernel_rfl) (by kernel_rfl) (by kernel_rfl) (fun _ _ _ h => h) (Or.inl ⟨by rfl, ?_⟩) trivial ?_
  rotate_left
  · intro w hSw
    go_simp
    try with_reducible rfl
  simp only [Act.put, List.setIfInBounds_toArray, List.set_cons_zero, List.set_cons_succ]
  try dsimp only
  refine wpAnyH_done (by kernel_rfl) ?_ _
  go_wp2
  go_ret
  exact ⟨_, rfl, hO, hbn⟩
set_option maxRecDepth 100000 in
set_option maxHeartbeats 2000000 in
theorem messageFields_9 (g : Nat) (w : World) (c0 : w.cell? ⟨g, 0, none⟩ = some (.int .i64 9)) (hg : g < w.heap.size) :
    Calls Try.prog 22 #[.pointer (some ⟨g, 0, none⟩)] w fun e w' => ∃ v, e = .returned v ∧ Own3 mv okS g w.heap.size w' v (fdM 9) ∧ Below w.heap.size w w' := by
  go_enter Try.func22, Try.ntmps22
  go_wp2_with fail
  have hb0 : Below w.heap.size w w.drew := Below.drew (Below.refl _ _)
  refine wp_region_held_drew (S := (fun _ => True)) (by kernel_rfl) trivial (fun _ => ?_)
  refine wpAnyH_take (i := 0) (oi := Oper.mk (some 24) _ _ _ _ _) (v := ?_) rfl (by kernel_rfl) (by kernel_rfl) (by kernel_rfl) (fun _ _ _ h => h) (Or.inl ⟨by rfl, ?_⟩) trivial ?_
  rotate_left
  · intro w hSw
    go_simp
    try with_reducible rfl
  simp only [Act.put, List.setIfInBounds_toArray, List.set_cons_zero, List.set_cons_succ]
  try dsimp only
  refine wpAnyH_take (i := 1) (oi := Oper.mk (some 25) _ _ _ _ _) (v := ?_) rfl (by kernel_rfl) (by kernel_rfl) (by kernel_rfl) (fun _ _ _ h => h) (Or.inl ⟨by rfl, ?_⟩) trivial ?_
  rotate_left
  · intro w hSw
    go_simp
    try with_reducible rfl
  simp only [Act.put, List.setIfInBounds_toArray, List.set_cons_zero, List.set_cons_succ]
  try dsimp only
  refine wpAnyH_take (i := 2) (oi := Oper.mk (some 26) _ _ _ _ _) (v := ?_) rfl (by kernel_rfl) (by kernel_rfl) (by kernel_rfl) (fun _ _ _ h => h) (Or.inl ⟨by rfl, ?_⟩) trivial ?_
  rotate_left
  · intro w hSw
    go_simp
    try with_reducible rfl
  simp only [Act.put, List.setIfInBounds_toArray, List.set_cons_zero, List.set_cons_succ]
  try dsimp only
  refine wpAnyH_take (i := 4) (oi := Oper.mk (some 28) _ _ _ _ _) (v := ?_) rfl (by kernel_rfl) (by kernel_rfl) (by kernel_rfl) (fun _ _ _ h => h) (Or.inl ⟨by rfl, ?_⟩) trivial ?_
  rotate_left
  · intro w hSw
    go_simp
    try with_reducible rfl
  simp only [Act.put, List.setIfInBounds_toArray, List.set_cons_zero, List.set_cons_succ]
  try dsimp only
  refine wpAnyH_take (i := 5) (oi := Oper.mk (some 29) _ _ _ _ _) (v := ?_) rfl (by kernel_rfl) (by kernel_rfl) (by kernel_rfl) (fun _ _ _ h => h) (Or.inl ⟨by rfl, ?_⟩) trivial ?_
  rotate_left
  · intro w hSw
    go_simp
    try with_reducible rfl
  simp only [Act.put, List.setIfInBounds_toArray, List.set_cons_zero, List.set_cons_succ]
  try dsimp only
  refine wpAnyH_take (i := 6) (oi := Oper.mk (some 30) _ _ _ _ _) (v := ?_) rfl (by kernel_rfl) (by kernel_rfl) (by kernel_rfl) (fun _ _ _ h => h) (Or.inl ⟨by rfl, ?_⟩) trivial ?_
  rotate_left
  · intro w hSw
    go_simp
    try with_reducible rfl
  simp only [Act.put, List.setIfInBounds_toArray, List.set_cons_zero, List.set_cons_succ]
  try dsimp only
  refine wpAnyH_ready (rs := [3]) (by kernel_rfl) (by simp) ?_
  refine AllReadyH.cons (o := Oper.mk (some 27) _ _ _ _ _) rfl (fun F hF => ?_) AllReadyH.nil
  go_simp
  refine (kind_fd plKind g w.drew hg).mono ?_
  intro e w1 hm
  obtain ⟨k1, f1, e1, rfl, q1, q1', hF1, hn1⟩ := hm.open_
  clear hm
  have hz0 := hb0.size
  have hb1 := hb0.trans (hn1.mono hz0)
  clear hn1
  try dsimp only
  refine hF.out _ _ trivial (fun _ => ?_)
  clear hF F
  refine wpAnyH_ready (rs := [7]) (by kernel_rfl) (by simp) ?_
  refine AllReadyH.cons (o := Oper.mk (some 31) _ _ _ _ _) rfl (fun F hF => ?_) AllReadyH.nil
  go_simp
  refine (seq_fd plSeq g w1 (Nat.lt_of_lt_of_le hg hb1.size)).mono ?_
  intro e w2 hm
  obtain ⟨k2, f2, e2, rfl, q2, q2', hF2, hn2⟩ := hm.open_
  clear hm
  have hz1 := hb1.size
  have hb2 := hb1.trans (hn2.mono hz1)
  replace hF1 := hF1.since hn2
  clear hn2
  try dsimp only
  refine hF.out _ _ trivial (fun _ => ?_)
  clear hF F
  have hF : Fds mv okS g (fun b => w.heap.size ≤ b) w2 [fKind, fSeq] _ := (Fds.cons hF1 hz0 (Fds.cons hF2 hz1 (rfl : Fds mv okS g (fun b => w.heap.size ≤ b) w2 [] [])))
  have hzn := hb2.size
  have hO := Own3.lit hF hzn 2 rfl (by decide) #[.int .i64 k1, f1, e1, .int .i64 k2, f2, e2] rfl
  have hbn : Below w.heap.size w (w2.alloc (.cells #[.int .i64 k1, f1, e1, .int .i64 k2, f2, e2] 66)) := hb2.alloc hzn _
  clear hF hF1 hF2
  refine wpAnyH_ready (rs := [8]) (by kernel_rfl) (by simp) ?_
  refine AllReadyH.cons (o := Oper.mk (some 32) _ _ _ _ _) rfl (fun F hF => ?_) AllReadyH.nil
  go_simp
  try dsimp only
  refine hF.out _ _ trivial (fun _ => ?_)
  clear hF F
  refine wpAnyH_take (i := 9) (oi := Oper.mk (some 2) _ _ _ _ _) (v := ?_) rfl (by kernel_rfl) (by kernel_rfl) (by kernel_rfl) (fun _ _ _ h => h) (Or.inl ⟨by rfl, ?_⟩) trivial ?_
  rotate_left
  · intro w hSw
    go_simp
    try with_reducible rfl
  simp only [Act.put, List.setIfInBounds_toArray, List.set_cons_zero, List.set_cons_succ]
  try dsimp only
  refine wpAnyH_done (by kernel_rfl) ?_ _
  go_wp2
  go_ret
  exact ⟨_, rfl, hO, hbn⟩
set_option maxRecDepth 100000 in
set_option maxHeartbeats 2000000 in
theorem messageFields_5 (g : Nat) (w : World) (c0 : w.cell? ⟨g, 0, none⟩ = some (.int .i64 5)) (hg : g < w.heap.size) :
    Calls Try.prog 22 #[.pointer (some ⟨g, 0, none⟩)] w fun e w' => ∃ v, e = .returned v ∧ Own3 mv okS g w.heap.size w' v (fdM 5) ∧ Below w.heap.size w w' := by
  go_enter Try.func22, Try.ntmps22
  go_wp2_with fail
  have hb0 : Below w.heap.size w w.drew := Below.drew (Below.refl _ _)
  refine wp_region_held_drew (S := (fun _ => True)) (by kernel_rfl) trivial (fun _ => ?_)
  refine wpAnyH_take (i := 0) (oi := Oper.mk (some 35) _ _ _ _ _) (v := ?_) rfl (by kernel_rfl) (by kernel_rfl) (by kernel_rfl) (fun _ _ _ h => h) (Or.inl ⟨by rfl, ?_⟩) trivial ?_
  rotate_left
  · intro w hSw
    go_simp
    try with_reducible rfl
  simp only [Act.put, List.setIfInBounds_toArray, List.set_cons_zero, List.set_cons_succ]
  try dsimp only
  refine wpAnyH_take (i := 1) (oi := Oper.mk (some 36) _ _ _ _ _) (v := ?_) rfl (by kernel_rfl) (by kernel_rfl) (by kernel_rfl) (fun _ _ _ h => h) (Or.inl ⟨by rfl, ?_⟩) trivial ?_
  rotate_left
  · intro w hSw
    go_simp
    try with_reducible rfl
  simp only [Act.put, List.setIfInBounds_toArray, List.set_cons_zero, List.set_cons_succ]
  try dsimp only
  refine wpAnyH_take (i := 2) (oi := Oper.mk (some 37) _ _ _ _ _) (v := ?_) rfl (by kernel_rfl) (by kernel_rfl) (by kernel_rfl) (fun _ _ _ h => h) (Or.inl ⟨by rfl, ?_⟩) trivial ?_
  rotate_left
  · intro w hSw
    go_simp
    try with_reducible rfl
  simp only [Act.put, List.setIfInBounds_toArray, List.set_cons_zero, List.set_cons_succ]
  try dsimp only
  refine wpAnyH_take (i := 4) (oi := Oper.mk (some 39) _ _ _ _ _) (v := ?_) rfl (by kernel_rfl) (by kernel_rfl) (by kernel_rfl) (fun _ _ _ h => h) (Or.inl ⟨by rfl, ?_⟩) trivial ?_
  rotate_left
  · intro w hSw
    go_simp
    try with_reducible rfl
  simp only [Act.put, List.setIfInBounds_toArray, List.set_cons_zero, List.set_cons_succ]
  try dsimp only
  refine wpAnyH_take (i := 5) (oi := Oper.mk (some 40) _ _ _ _ _) (v := ?_) rfl (by kernel_rfl) (by kernel_rfl) (by kernel_rfl) (fun _ _ _ h => h) (Or.inl ⟨by rfl, ?_⟩) trivial ?_
  rotate_left
  · intro w hSw
    go_simp
    try with_reducible rfl
  simp only [Act.put, List.setIfInBounds_toArray, List.set_cons_zero, List.set_cons_succ]
  try dsimp only
  refine wpAnyH_take (i := 6) (oi := Oper.mk (some 41) _ _ _ _ _) (v := ?_) rfl (by kernel_rfl) (by kernel_rfl) (by kernel_rfl) (fun _ _ _ h => h) (Or.inl ⟨by rfl, ?_⟩) trivial ?_
  rotate_left
  · intro w hSw
    go_simp
    try with_reducible rfl
  simp only [Act.put, List.setIfInBounds_toArray, List.set_cons_zero, List.set_cons_succ]
  try dsimp only
  refine wpAnyH_take (i := 8) (oi := Oper.mk (some 43) _ _ _ _ _) (v := ?_) rfl (by kernel_rfl) (by kernel_rfl) (by kernel_rfl) (fun _ _ _ h => h) (Or.inl ⟨by rfl, ?_⟩) trivial ?_
  rotate_left
  · intro w hSw
    go_simp
    try with_reducible rfl
  simp only [Act.put, List.setIfInBounds_toArray, List.set_cons_zero, List.set_cons_succ]
  try dsimp only
  refine wpAnyH_take (i := 9) (oi := Oper.mk (some 44) _ _ _ _ _) (v := ?_) rfl (by kernel_rfl) (by kernel_rfl) (by kernel_rfl) (fun _ _ _ h => h) (Or.inl ⟨by rfl, ?_⟩) trivial ?_
  rotate_left
  · intro w hSw
    go_simp
    try with_reducible rfl
  simp only [Act.put, List.setIfInBounds_toArray, List.set_cons_zero, List.set_cons_succ]
  try dsimp only
  refine wpAnyH_take (i := 10) (oi := Oper.mk (some 45) _ _ _ _ _) (v := ?_) rfl (by kernel_rfl) (by kernel_rfl) (by kernel_rfl) (fun _ _ _ h => h) (Or.inl ⟨by rfl, ?_⟩) trivial ?_
  rotate_left
  · intro w hSw
    go_simp
    try with_reducible rfl
  simp only [Act.put, List.setIfInBounds_toArray, List.set_cons_zero, List.set_cons_succ]
  try dsimp only
  refine wpAnyH_ready (rs := [3]) (by kernel_rfl) (by simp) ?_
  refine AllReadyH.cons (o := Oper.mk (some 38) _ _ _ _ _) rfl (fun F hF => ?_) AllReadyH.nil
  go_simp
  refine (kind_fd plKind g w.drew hg).mono ?_
  intro e w1 hm
  obtain ⟨k1, f1, e1, rfl, q1, q1', hF1, hn1⟩ := hm.open_
  clear hm
  have hz0 := hb0.size
  have hb1 := hb0.trans (hn1.mono hz0)
  clear hn1
  try dsimp only
  refine hF.out _ _ trivial (fun _ => ?_)
  clear hF F
  refine wpAnyH_ready (rs := [7]) (by kernel_rfl) (by simp) ?_
  refine AllReadyH.cons (o := Oper.mk (some 42) _ _ _ _ _) rfl (fun F hF => ?_) AllReadyH.nil
  go_simp
  refine (seq_fd plSeq g w1 (Nat.lt_of_lt_of_le hg hb1.size)).mono ?_
  intro e w2 hm
  obtain ⟨k2, f2, e2, rfl, q2, q2', hF2, hn2⟩ := hm.open_
  clear hm
  have hz1 := hb1.size
  have hb2 := hb1.trans (hn2.mono hz1)
  replace hF1 := hF1.since hn2
  clear hn2
  try dsimp only
  refine hF.out _ _ trivial (fun _ => ?_)
  clear hF F
  refine wpAnyH_ready (rs := [11]) (by kernel_rfl) (by simp) ?_
  refine AllReadyH.cons (o := Oper.mk (some 46) _ _ _ _ _) rfl (fun F hF => ?_) AllReadyH.nil
  go_simp
  refine (flag_fd plNow g w2 (Nat.lt_of_lt_of_le hg hb2.size)).mono ?_
  intro e w3 hm
  obtain ⟨k3, f3, e3, rfl, q3, q3', hF3, hn3⟩ := hm.open_
  clear hm
  have hz2 := hb2.size
  have hb3 := hb2.trans (hn3.mono hz2)
  replace hF1 := hF1.since hn3
  replace hF2 := hF2.since hn3
  clear hn3
  try dsimp only
  refine hF.out _ _ trivial (fun _ => ?_)
  clear hF F
  have hF : Fds mv okS g (fun b => w.heap.size ≤ b) w3 [fKind, fSeq, fNow] _ := (Fds.cons hF1 hz0 (Fds.cons hF2 hz1 (Fds.cons hF3 hz2 (rfl : Fds mv okS g (fun b => w.heap.size ≤ b) w3 [] []))))
  have hzn := hb3.size
  have hO := Own3.lit hF hzn 3 rfl (by decide) #[.int .i64 k1, f1, e1, .int .i64 k2, f2, e2, .int .i64 k3, f3, e3] rfl
  have hbn : Below w.heap.size w (w3.alloc (.cells #[.int .i64 k1, f1, e1, .int .i64 k2, f2, e2, .int .i64 k3, f3, e3] 66)) := hb3.alloc hzn _
  clear hF hF1 hF2 hF3
  refine wpAnyH_ready (rs := [12]) (by kernel_rfl) (by simp) ?_
  refine AllReadyH.cons (o := Oper.mk (some 47) _ _ _ _ _) rfl (fun F hF => ?_) AllReadyH.nil
  go_simp
  try dsimp only
  refine hF.out _ _ trivial (fun _ => ?_)
  clear hF F
  refine wpAnyH_take (i := 13) (oi := Oper.mk (some 2) _ _ _ _ _) (v := ?_) rfl (by kernel_rfl) (by kernel_rfl) (by kernel_rfl) (fun _ _ _ h => h) (Or.inl ⟨by rfl, ?_⟩) trivial ?_
  rotate_left
  · intro w hSw
    go_simp
    try with_reducible rfl
  simp only [Act.put, List.setIfInBounds_toArray, List.set_cons_zero, List.set_cons_succ]
  try dsimp only
  refine wpAnyH_done (by kernel_rfl) ?_ _
  go_wp2
  go_ret
  exact ⟨_, rfl, hO, hbn⟩
set_option maxRecDepth 100000 in
set_option maxHeartbeats 2000000 in
theorem messageFields_6 (g : Nat) (w : World) (c0 : w.cell? ⟨g, 0, none⟩ = some (.int .i64 6)) (hg : g < w.heap.size) :
    Calls Try.prog 22 #[.pointer (some ⟨g, 0, none⟩)] w fun e w' => ∃ v, e = .returned v ∧ Own3 mv okS g w.heap.size w' v (fdM 6) ∧ Below w.heap.size w w' := by
  go_enter Try.func22, Try.ntmps22
  go_wp2_with fail
  have hb0 : Below w.heap.size w w.drew := Below.drew (Below.refl _ _)
  refine wp_region_held_drew (S := (fun _ => True)) (by kernel_rfl) trivial (fun _ => ?_)
  refine wpAnyH_take (i := 0) (oi := Oper.mk (some 50) _ _ _ _ _) (v := ?_) rfl (by kernel_rfl) (by kernel_rfl) (by kernel_rfl) (fun _ _ _ h => h) (Or.inl ⟨by rfl, ?_⟩) trivial ?_
  rotate_left
  · intro w hSw
    go_simp
    try with_reducible rfl
  simp only [Act.put, List.setIfInBounds_toArray, List.set_cons_zero, List.set_cons_succ]
  try dsimp only
  refine wpAnyH_take (i := 1) (oi := Oper.mk (some 51) _ _ _ _ _) (v := ?_) rfl (by kernel_rfl) (by kernel_rfl) (by kernel_rfl) (fun _ _ _ h => h) (Or.inl ⟨by rfl, ?_⟩) trivial ?_
  rotate_left
  · intro w hSw
    go_simp
    try with_reducible rfl
  simp only [Act.put, List.setIfInBounds_toArray, List.set_cons_zero, List.set_cons_succ]
  try dsimp only
  refine wpAnyH_take (i := 2) (oi := Oper.mk (some 52) _ _ _ _ _) (v := ?_) rfl (by kernel_rfl) (by kernel_rfl) (by kernel_rfl) (fun _ _ _ h => h) (Or.inl ⟨by rfl, ?_⟩) trivial ?_
  rotate_left
  · intro w hSw
    go_simp
    try with_reducible rfl
  simp only [Act.put, List.setIfInBounds_toArray, List.set_cons_zero, List.set_cons_succ]
  try dsimp only
  refine wpAnyH_take (i := 4) (oi := Oper.mk (some 54) _ _ _ _ _) (v := ?_) rfl (by kernel_rfl) (by kernel_rfl) (by kernel_rfl) (fun _ _ _ h => h) (Or.inl ⟨by rfl, ?_⟩) trivial ?_
  rotate_left
  · intro w hSw
    go_simp
    try with_reducible rfl
  simp only [Act.put, List.setIfInBounds_toArray, List.set_cons_zero, List.set_cons_succ]
  try dsimp only
  refine wpAnyH_take (i := 5) (oi := Oper.mk (some 55) _ _ _ _ _) (v := ?_) rfl (by kernel_rfl) (by kernel_rfl) (by kernel_rfl) (fun _ _ _ h => h) (Or.inl ⟨by rfl, ?_⟩) trivial ?_
  rotate_left
  · intro w hSw
    go_simp
    try with_reducible rfl
  simp only [Act.put, List.setIfInBounds_toArray, List.set_cons_zero, List.set_cons_succ]
  try dsimp only
  refine wpAnyH_take (i := 6) (oi := Oper.mk (some 56) _ _ _ _ _) (v := ?_) rfl (by kernel_rfl) (by kernel_rfl) (by kernel_rfl) (fun _ _ _ h => h) (Or.inl ⟨by rfl, ?_⟩) trivial ?_
  rotate_left
  · intro w hSw
    go_simp
    try with_reducible rfl
  simp only [Act.put, List.setIfInBounds_toArray, List.set_cons_zero, List.set_cons_succ]
  try dsimp only
  refine wpAnyH_take (i := 8) (oi := Oper.mk (some 58) _ _ _ _ _) (v := ?_) rfl (by kernel_rfl) (by kernel_rfl) (by kernel_rfl) (fun _ _ _ h => h) (Or.inl ⟨by rfl, ?_⟩) trivial ?_
  rotate_left
  · intro w hSw
    go_simp
    try with_reducible rfl
  simp only [Act.put, List.setIfInBounds_toArray, List.set_cons_zero, List.set_cons_succ]
  try dsimp only
  refine wpAnyH_take (i := 9) (oi := Oper.mk (some 59) _ _ _ _ _) (v := ?_) rfl (by kernel_rfl) (by kernel_rfl) (by kernel_rfl) (fun _ _ _ h => h) (Or.inl ⟨by rfl, ?_⟩) trivial ?_
  rotate_left
  · intro w hSw
    go_simp
    try with_reducible rfl
  simp only [Act.put, List.setIfInBounds_toArray, List.set_cons_zero, List.set_cons_succ]
  try dsimp only
  refine wpAnyH_take (i := 10) (oi := Oper.mk (some 60) _ _ _ _ _) (v := ?_) rfl (by kernel_rfl) (by kernel_rfl) (by kernel_rfl) (fun _ _ _ h => h) (Or.inl ⟨by rfl, ?_⟩) trivial ?_
  rotate_left
  · intro w hSw
    go_simp
    try with_reducible rfl
  simp only [Act.put, List.setIfInBounds_toArray, List.set_cons_zero, List.set_cons_succ]
  try dsimp only
  refine wpAnyH_ready (rs := [3]) (by kernel_rfl) (by simp) ?_
  refine AllReadyH.cons (o := Oper.mk (some 53) _ _ _ _ _) rfl (fun F hF => ?_) AllReadyH.nil
  go_simp
  refine (kind_fd plKind g w.drew hg).mono ?_
  intro e w1 hm
  obtain ⟨k1, f1, e1, rfl, q1, q1', hF1, hn1⟩ := hm.open_
  clear hm
  have hz0 := hb0.size
  have hb1 := hb0.trans (hn1.mono hz0)
  clear hn1
  try dsimp only
  refine hF.out _ _ trivial (fun _ => ?_)
  clear hF F
  refine wpAnyH_ready (rs := [7]) (by kernel_rfl) (by simp) ?_
  refine AllReadyH.cons (o := Oper.mk (some 57) _ _ _ _ _) rfl (fun F hF => ?_) AllReadyH.nil
  go_simp
  refine (seq_fd plSeq g w1 (Nat.lt_of_lt_of_le hg hb1.size)).mono ?_
  intro e w2 hm
  obtain ⟨k2, f2, e2, rfl, q2, q2', hF2, hn2⟩ := hm.open_
  clear hm
  have hz1 := hb1.size
  have hb2 := hb1.trans (hn2.mono hz1)
  replace hF1 := hF1.since hn2
  clear hn2
  try dsimp only
  refine hF.out _ _ trivial (fun _ => ?_)
  clear hF F
  refine wpAnyH_ready (rs := [11]) (by kernel_rfl) (by simp) ?_
  refine AllReadyH.cons (o := Oper.mk (some 61) _ _ _ _ _) rfl (fun F hF => ?_) AllReadyH.nil
  go_simp
  refine (source_fd plTo g w2 (Nat.lt_of_lt_of_le hg hb2.size)).mono ?_
  intro e w3 hm
  obtain ⟨k3, f3, e3, rfl, q3, q3', hF3, hn3⟩ := hm.open_
  clear hm
  have hz2 := hb2.size
  have hb3 := hb2.trans (hn3.mono hz2)
  replace hF1 := hF1.since hn3
  replace hF2 := hF2.since hn3
  clear hn3
  try dsimp only
  refine hF.out _ _ trivial (fun _ => ?_)
  clear hF F
  have hF : Fds mv okS g (fun b => w.heap.size ≤ b) w3 [fKind, fSeq, fTo] _ := (Fds.cons hF1 hz0 (Fds.cons hF2 hz1 (Fds.cons hF3 hz2 (rfl : Fds mv okS g (fun b => w.heap.size ≤ b) w3 [] []))))
  have hzn := hb3.size
  have hO := Own3.lit hF hzn 3 rfl (by decide) #[.int .i64 k1, f1, e1, .int .i64 k2, f2, e2, .int .i64 k3, f3, e3] rfl
  have hbn : Below w.heap.size w (w3.alloc (.cells #[.int .i64 k1, f1, e1, .int .i64 k2, f2, e2, .int .i64 k3, f3, e3] 66)) := hb3.alloc hzn _
  clear hF hF1 hF2 hF3
  refine wpAnyH_ready (rs := [12]) (by kernel_rfl) (by simp) ?_
  refine AllReadyH.cons (o := Oper.mk (some 62) _ _ _ _ _) rfl (fun F hF => ?_) AllReadyH.nil
  go_simp
  try dsimp only
  refine hF.out _ _ trivial (fun _ => ?_)
  clear hF F
  refine wpAnyH_take (i := 13) (oi := Oper.mk (some 2) _ _ _ _ _) (v := ?_) rfl (by kernel_rfl) (by kernel_rfl) (by kernel_rfl) (fun _ _ _ h => h) (Or.inl ⟨by rfl, ?_⟩) trivial ?_
  rotate_left
  · intro w hSw
    go_simp
    try with_reducible rfl
  simp only [Act.put, List.setIfInBounds_toArray, List.set_cons_zero, List.set_cons_succ]
  try dsimp only
  refine wpAnyH_done (by kernel_rfl) ?_ _
  go_wp2
  go_ret
  exact ⟨_, rfl, hO, hbn⟩
set_option maxRecDepth 100000 in
set_option maxHeartbeats 2000000 in
theorem messageFields_7 (g : Nat) (w : World) (c0 : w.cell? ⟨g, 0, none⟩ = some (.int .i64 7)) (hg : g < w.heap.size) :
    Calls Try.prog 22 #[.pointer (some ⟨g, 0, none⟩)] w fun e w' => ∃ v, e = .returned v ∧ Own3 mv okS g w.heap.size w' v (fdM 7) ∧ Below w.heap.size w w' := by
  go_enter Try.func22, Try.ntmps22
  go_wp2_with fail
  have hb0 : Below w.heap.size w w.drew := Below.drew (Below.refl _ _)
  refine wp_region_held_drew (S := (fun _ => True)) (by kernel_rfl) trivial (fun _ => ?_)
  refine wpAnyH_take (i := 0) (oi := Oper.mk (some 65) _ _ _ _ _) (v := ?_) rfl (by kernel_rfl) (by kernel_rfl) (by kernel_rfl) (fun _ _ _ h => h) (Or.inl ⟨by rfl, ?_⟩) trivial ?_
  rotate_left
  · intro w hSw
    go_simp
    try with_reducible rfl
  simp only [Act.put, List.setIfInBounds_toArray, List.set_cons_zero, List.set_cons_succ]
  try dsimp only
  refine wpAnyH_take (i := 1) (oi := Oper.mk (some 66) _ _ _ _ _) (v := ?_) rfl (by kernel_rfl) (by kernel_rfl) (by kernel_rfl) (fun _ _ _ h => h) (Or.inl ⟨by rfl, ?_⟩) trivial ?_
  rotate_left
  · intro w hSw
    go_simp
    try with_reducible rfl
  simp only [Act.put, List.setIfInBounds_toArray, List.set_cons_zero, List.set_cons_succ]
  try dsimp only
  refine wpAnyH_take (i := 2) (oi := Oper.mk (some 67) _ _ _ _ _) (v := ?_) rfl (by kernel_rfl) (by kernel_rfl) (by kernel_rfl) (fun _ _ _ h => h) (Or.inl ⟨by rfl, ?_⟩) trivial ?_
  rotate_left
  · intro w hSw
    go_simp
    try with_reducible rfl
  simp only [Act.put, List.setIfInBounds_toArray, List.set_cons_zero, List.set_cons_succ]
  try dsimp only
  refine wpAnyH_take (i := 4) (oi := Oper.mk (some 69) _ _ _ _ _) (v := ?_) rfl (by kernel_rfl) (by kernel_rfl) (by kernel_rfl) (fun _ _ _ h => h) (Or.inl ⟨by rfl, ?_⟩) trivial ?_
  rotate_left
  · intro w hSw
    go_simp
    try with_reducible rfl
  simp only [Act.put, List.setIfInBounds_toArray, List.set_cons_zero, List.set_cons_succ]
  try dsimp only
  refine wpAnyH_take (i := 5) (oi := Oper.mk (some 70) _ _ _ _ _) (v := ?_) rfl (by kernel_rfl) (by kernel_rfl) (by kernel_rfl) (fun _ _ _ h => h) (Or.inl ⟨by rfl, ?_⟩) trivial ?_
  rotate_left
  · intro w hSw
    go_simp
    try with_reducible rfl
  simp only [Act.put, List.setIfInBounds_toArray, List.set_cons_zero, List.set_cons_succ]
  try dsimp only
  refine wpAnyH_take (i := 6) (oi := Oper.mk (some 71) _ _ _ _ _) (v := ?_) rfl (by kernel_rfl) (by kernel_rfl) (by kernel_rfl) (fun _ _ _ h => h) (Or.inl ⟨by rfl, ?_⟩) trivial ?_
  rotate_left
  · intro w hSw
    go_simp
    try with_reducible rfl
  simp only [Act.put, List.setIfInBounds_toArray, List.set_cons_zero, List.set_cons_succ]
  try dsimp only
  refine wpAnyH_take (i := 8) (oi := Oper.mk (some 73) _ _ _ _ _) (v := ?_) rfl (by kernel_rfl) (by kernel_rfl) (by kernel_rfl) (fun _ _ _ h => h) (Or.inl ⟨by rfl, ?_⟩) trivial ?_
  rotate_left
  · intro w hSw
    go_simp
    try with_reducible rfl
  simp only [Act.put, List.setIfInBounds_toArray, List.set_cons_zero, List.set_cons_succ]
  try dsimp only
  refine wpAnyH_take (i := 9) (oi := Oper.mk (some 74) _ _ _ _ _) (v := ?_) rfl (by kernel_rfl) (by kernel_rfl) (by kernel_rfl) (fun _ _ _ h => h) (Or.inl ⟨by rfl, ?_⟩) trivial ?_
  rotate_left
  · intro w hSw
    go_simp
    try with_reducible rfl
  simp only [Act.put, List.setIfInBounds_toArray, List.set_cons_zero, List.set_cons_succ]
  try dsimp only
  refine wpAnyH_take (i := 10) (oi := Oper.mk (some 75) _ _ _ _ _) (v := ?_) rfl (by kernel_rfl) (by kernel_rfl) (by kernel_rfl) (fun _ _ _ h => h) (Or.inl ⟨by rfl, ?_⟩) trivial ?_
  rotate_left
  · intro w hSw
    go_simp
    try with_reducible rfl
  simp only [Act.put, List.setIfInBounds_toArray, List.set_cons_zero, List.set_cons_succ]
  try dsimp only
  refine wpAnyH_ready (rs := [3]) (by kernel_rfl) (by simp) ?_
  refine AllReadyH.cons (o := Oper.mk (some 68) _ _ _ _ _) rfl (fun F hF => ?_) AllReadyH.nil
  go_simp
  refine (kind_fd plKind g w.drew hg).mono ?_
  intro e w1 hm
  obtain ⟨k1, f1, e1, rfl, q1, q1', hF1, hn1⟩ := hm.open_
  clear hm
  have hz0 := hb0.size
  have hb1 := hb0.trans (hn1.mono hz0)
  clear hn1
  try dsimp only
  refine hF.out _ _ trivial (fun _ => ?_)
  clear hF F
  refine wpAnyH_ready (rs := [7]) (by kernel_rfl) (by simp) ?_
  refine AllReadyH.cons (o := Oper.mk (some 72) _ _ _ _ _) rfl (fun F hF => ?_) AllReadyH.nil
  go_simp
  refine (seq_fd plSeq g w1 (Nat.lt_of_lt_of_le hg hb1.size)).mono ?_
  intro e w2 hm
  obtain ⟨k2, f2, e2, rfl, q2, q2', hF2, hn2⟩ := hm.open_
  clear hm
  have hz1 := hb1.size
  have hb2 := hb1.trans (hn2.mono hz1)
  replace hF1 := hF1.since hn2
  clear hn2
  try dsimp only
  refine hF.out _ _ trivial (fun _ => ?_)
  clear hF F
  refine wpAnyH_ready (rs := [11]) (by kernel_rfl) (by simp) ?_
  refine AllReadyH.cons (o := Oper.mk (some 76) _ _ _ _ _) rfl (fun F hF => ?_) AllReadyH.nil
  go_simp
  refine (epoch_fd plEpoch g w2 (Nat.lt_of_lt_of_le hg hb2.size)).mono ?_
  intro e w3 hm
  obtain ⟨k3, f3, e3, rfl, q3, q3', hF3, hn3⟩ := hm.open_
  clear hm
  have hz2 := hb2.size
  have hb3 := hb2.trans (hn3.mono hz2)
  replace hF1 := hF1.since hn3
  replace hF2 := hF2.since hn3
  clear hn3
  try dsimp only
  refine hF.out _ _ trivial (fun _ => ?_)
  clear hF F
  have hF : Fds mv okS g (fun b => w.heap.size ≤ b) w3 [fKind, fSeq, fEpoch] _ := (Fds.cons hF1 hz0 (Fds.cons hF2 hz1 (Fds.cons hF3 hz2 (rfl : Fds mv okS g (fun b => w.heap.size ≤ b) w3 [] []))))
  have hzn := hb3.size
  have hO := Own3.lit hF hzn 3 rfl (by decide) #[.int .i64 k1, f1, e1, .int .i64 k2, f2, e2, .int .i64 k3, f3, e3] rfl
  have hbn : Below w.heap.size w (w3.alloc (.cells #[.int .i64 k1, f1, e1, .int .i64 k2, f2, e2, .int .i64 k3, f3, e3] 66)) := hb3.alloc hzn _
  clear hF hF1 hF2 hF3
  refine wpAnyH_ready (rs := [12]) (by kernel_rfl) (by simp) ?_
  refine AllReadyH.cons (o := Oper.mk (some 77) _ _ _ _ _) rfl (fun F hF => ?_) AllReadyH.nil
  go_simp
  try dsimp only
  refine hF.out _ _ trivial (fun _ => ?_)
  clear hF F
  refine wpAnyH_take (i := 13) (oi := Oper.mk (some 2) _ _ _ _ _) (v := ?_) rfl (by kernel_rfl) (by kernel_rfl) (by kernel_rfl) (fun _ _ _ h => h) (Or.inl ⟨by rfl, ?_⟩) trivial ?_
  rotate_left
  · intro w hSw
    go_simp
    try with_reducible rfl
  simp only [Act.put, List.setIfInBounds_toArray, List.set_cons_zero, List.set_cons_succ]
  try dsimp only
  refine wpAnyH_done (by kernel_rfl) ?_ _
  go_wp2
  go_ret
  exact ⟨_, rfl, hO, hbn⟩
set_option maxRecDepth 100000 in
set_option maxHeartbeats 2000000 in
theorem messageFields_10 (g : Nat) (w : World) (c0 : w.cell? ⟨g, 0, none⟩ = some (.int .i64 10)) (hg : g < w.heap.size) :
    Calls Try.prog 22 #[.pointer (some ⟨g, 0, none⟩)] w fun e w' => ∃ v, e = .returned v ∧ Own3 mv okS g w.heap.size w' v (fdM 10) ∧ Below w.heap.size w w' := by
  go_enter Try.func22, Try.ntmps22
  go_wp2_with fail
  have hb0 : Below w.heap.size w w.drew := Below.drew (Below.refl _ _)
  refine wp_region_held_drew (S := (fun _ => True)) (by kernel_rfl) trivial (fun _ => ?_)
  refine wpAnyH_take (i := 0) (oi := Oper.mk (some 80) _ _ _ _ _) (v := ?_) rfl (by kernel_rfl) (by kernel_rfl) (by kernel_rfl) (fun _ _ _ h => h) (Or.inl ⟨by rfl, ?_⟩) trivial ?_
  rotate_left
  · intro w hSw
    go_simp
    try with_reducible rfl
  simp only [Act.put, List.setIfInBounds_toArray, List.set_cons_zero, List.set_cons_succ]
  try dsimp only
  refine wpAnyH_take (i := 1) (oi := Oper.mk (some 81) _ _ _ _ _) (v := ?_) rfl (by kernel_rfl) (by kernel_rfl) (by kernel_rfl) (fun _ _ _ h => h) (Or.inl ⟨by rfl, ?_⟩) trivial ?_
  rotate_left
  · intro w hSw
    go_simp
    try with_reducible rfl
  simp only [Act.put, List.setIfInBounds_toArray, List.set_cons_zero, List.set_cons_succ]
  try dsimp only
  refine wpAnyH_take (i := 2) (oi := Oper.mk (some 82) _ _ _ _ _) (v := ?_) rfl (by kernel_rfl) (by kernel_rfl) (by kernel_rfl) (fun _ _ _ h => h) (Or.inl ⟨by rfl, ?_⟩) trivial ?_
  rotate_left
  · intro w hSw
    go_simp
    try with_reducible rfl
  simp only [Act.put, List.setIfInBounds_toArray, List.set_cons_zero, List.set_cons_succ]
  try dsimp only
  refine wpAnyH_take (i := 4) (oi := Oper.mk (some 84) _ _ _ _ _) (v := ?_) rfl (by kernel_rfl) (by kernel_rfl) (by kernel_rfl) (fun _ _ _ h => h) (Or.inl ⟨by rfl, ?_⟩) trivial ?_
  rotate_left
  · intro w hSw
    go_simp
    try with_reducible rfl
  simp only [Act.put, List.setIfInBounds_toArray, List.set_cons_zero, List.set_cons_succ]
  try dsimp only
  refine wpAnyH_take (i := 5) (oi := Oper.mk (some 85) _ _ _ _ _) (v := ?_) rfl (by kernel_rfl) (by kernel_rfl) (by kernel_rfl) (fun _ _ _ h => h) (Or.inl ⟨by rfl, ?_⟩) trivial ?_
  rotate_left
  · intro w hSw
    go_simp
    try with_reducible rfl
  simp only [Act.put, List.setIfInBounds_toArray, List.set_cons_zero, List.set_cons_succ]
  try dsimp only
  refine wpAnyH_take (i := 6) (oi := Oper.mk (some 86) _ _ _ _ _) (v := ?_) rfl (by kernel_rfl) (by kernel_rfl) (by kernel_rfl) (fun _ _ _ h => h) (Or.inl ⟨by rfl, ?_⟩) trivial ?_
  rotate_left
  · intro w hSw
    go_simp
    try with_reducible rfl
  simp only [Act.put, List.setIfInBounds_toArray, List.set_cons_zero, List.set_cons_succ]
  try dsimp only
  refine wpAnyH_take (i := 8) (oi := Oper.mk (some 88) _ _ _ _ _) (v := ?_) rfl (by kernel_rfl) (by kernel_rfl) (by kernel_rfl) (fun _ _ _ h => h) (Or.inl ⟨by rfl, ?_⟩) trivial ?_
  rotate_left
  · intro w hSw
    go_simp
    try with_reducible rfl
  simp only [Act.put, List.setIfInBounds_toArray, List.set_cons_zero, List.set_cons_succ]
  try dsimp only
  refine wpAnyH_take (i := 9) (oi := Oper.mk (some 89) _ _ _ _ _) (v := ?_) rfl (by kernel_rfl) (by kernel_rfl) (by kernel_rfl) (fun _ _ _ h => h) (Or.inl ⟨by rfl, ?_⟩) trivial ?_
  rotate_left
  · intro w hSw
    go_simp
    try with_reducible rfl
  simp only [Act.put, List.setIfInBounds_toArray, List.set_cons_zero, List.set_cons_succ]
  try dsimp only
  refine wpAnyH_take (i := 10) (oi := Oper.mk (some 90) _ _ _ _ _) (v := ?_) rfl (by kernel_rfl) (by kernel_rfl) (by kernel_rfl) (fun _ _ _ h => h) (Or.inl ⟨by rfl, ?_⟩) trivial ?_
  rotate_left
  · intro w hSw
    go_simp
    try with_reducible rfl
  simp only [Act.put, List.setIfInBounds_toArray, List.set_cons_zero, List.set_cons_succ]
  try dsimp only
  refine wpAnyH_take (i := 12) (oi := Oper.mk (some 92) _ _ _ _ _) (v := ?_) rfl (by kernel_rfl) (by kernel_rfl) (by kernel_rfl) (fun _ _ _ h => h) (Or.inl ⟨by rfl, ?_⟩) trivial ?_
  rotate_left
  · intro w hSw
    go_simp
    try with_reducible rfl
  simp only [Act.put, List.setIfInBounds_toArray, List.set_cons_zero, List.set_cons_succ]
  try dsimp only
  refine wpAnyH_take (i := 13) (oi := Oper.mk (some 93) _ _ _ _ _) (v := ?_) rfl (by kernel_rfl) (by kernel_rfl) (by kernel_rfl) (fun _ _ _ h => h) (Or.inl ⟨by rfl, ?_⟩) trivial ?_
  rotate_left
  · intro w hSw
    go_simp
    try with_reducible rfl
  simp only [Act.put, List.setIfInBounds_toArray, List.set_cons_zero, List.set_cons_succ]
  try dsimp only
  refine wpAnyH_take (i := 14) (oi := Oper.mk (some 94) _ _ _ _ _) (v := ?_) rfl (by kernel_rfl) (by kernel_rfl) (by kernel_rfl) (fun _ _ _ h => h) (Or.inl ⟨by rfl, ?_⟩) trivial ?_
  rotate_left
  · intro w hSw
    go_simp
    try with_reducible rfl
  simp only [Act.put, List.setIfInBounds_toArray, List.set_cons_zero, List.set_cons_succ]
  try dsimp only
  refine wpAnyH_ready (rs := [3]) (by kernel_rfl) (by simp) ?_
  refine AllReadyH.cons (o := Oper.mk (some 83) _ _ _ _ _) rfl (fun F hF => ?_) AllReadyH.nil
  go_simp
  refine (kind_fd plKind g w.drew hg).mono ?_
  intro e w1 hm
  obtain ⟨k1, f1, e1, rfl, q1, q1', hF1, hn1⟩ := hm.open_
  clear hm
  have hz0 := hb0.size
  have hb1 := hb0.trans (hn1.mono hz0)
  clear hn1
  try dsimp only
  refine hF.out _ _ trivial (fun _ => ?_)
  clear hF F
  refine wpAnyH_ready (rs := [7]) (by kernel_rfl) (by simp) ?_
  refine AllReadyH.cons (o := Oper.mk (some 87) _ _ _ _ _) rfl (fun F hF => ?_) AllReadyH.nil
  go_simp
  refine (seq_fd plSeq g w1 (Nat.lt_of_lt_of_le hg hb1.size)).mono ?_
  intro e w2 hm
  obtain ⟨k2, f2, e2, rfl, q2, q2', hF2, hn2⟩ := hm.open_
  clear hm
  have hz1 := hb1.size
  have hb2 := hb1.trans (hn2.mono hz1)
  replace hF1 := hF1.since hn2
  clear hn2
  try dsimp only
  refine hF.out _ _ trivial (fun _ => ?_)
  clear hF F
  refine wpAnyH_ready (rs := [11]) (by kernel_rfl) (by simp) ?_
  refine AllReadyH.cons (o := Oper.mk (some 91) _ _ _ _ _) rfl (fun F hF => ?_) AllReadyH.nil
  go_simp
  refine (epoch_fd plEpoch g w2 (Nat.lt_of_lt_of_le hg hb2.size)).mono ?_
  intro e w3 hm
  obtain ⟨k3, f3, e3, rfl, q3, q3', hF3, hn3⟩ := hm.open_
  clear hm
  have hz2 := hb2.size
  have hb3 := hb2.trans (hn3.mono hz2)
  replace hF1 := hF1.since hn3
  replace hF2 := hF2.since hn3
  clear hn3
  try dsimp only
  refine hF.out _ _ trivial (fun _ => ?_)
  clear hF F
  refine wpAnyH_ready (rs := [15]) (by kernel_rfl) (by simp) ?_
  refine AllReadyH.cons (o := Oper.mk (some 95) _ _ _ _ _) rfl (fun F hF => ?_) AllReadyH.nil
  go_simp
  refine (mode_fd plMode g w3 (Nat.lt_of_lt_of_le hg hb3.size)).mono ?_
  intro e w4 hm
  obtain ⟨k4, f4, e4, rfl, q4, q4', hF4, hn4⟩ := hm.open_
  clear hm
  have hz3 := hb3.size
  have hb4 := hb3.trans (hn4.mono hz3)
  replace hF1 := hF1.since hn4
  replace hF2 := hF2.since hn4
  replace hF3 := hF3.since hn4
  clear hn4
  try dsimp only
  refine hF.out _ _ trivial (fun _ => ?_)
  clear hF F
  have hF : Fds mv okS g (fun b => w.heap.size ≤ b) w4 [fKind, fSeq, fEpoch, fMode] _ := (Fds.cons hF1 hz0 (Fds.cons hF2 hz1 (Fds.cons hF3 hz2 (Fds.cons hF4 hz3 (rfl : Fds mv okS g (fun b => w.heap.size ≤ b) w4 [] [])))))
  have hzn := hb4.size
  have hO := Own3.lit hF hzn 4 rfl (by decide) #[.int .i64 k1, f1, e1, .int .i64 k2, f2, e2, .int .i64 k3, f3, e3, .int .i64 k4, f4, e4] rfl
  have hbn : Below w.heap.size w (w4.alloc (.cells #[.int .i64 k1, f1, e1, .int .i64 k2, f2, e2, .int .i64 k3, f3, e3, .int .i64 k4, f4, e4] 66)) := hb4.alloc hzn _
  clear hF hF1 hF2 hF3 hF4
  refine wpAnyH_ready (rs := [16]) (by kernel_rfl) (by simp) ?_
  refine AllReadyH.cons (o := Oper.mk (some 96) _ _ _ _ _) rfl (fun F hF => ?_) AllReadyH.nil
  go_simp
  try dsimp only
  refine hF.out _ _ trivial (fun _ => ?_)
  clear hF F
  refine wpAnyH_take (i := 17) (oi := Oper.mk (some 2) _ _ _ _ _) (v := ?_) rfl (by kernel_rfl) (by kernel_rfl) (by kernel_rfl) (fun _ _ _ h => h) (Or.inl ⟨by rfl, ?_⟩) trivial ?_
  rotate_left
  · intro w hSw
    go_simp
    try with_reducible rfl
  simp only [Act.put, List.setIfInBounds_toArray, List.set_cons_zero, List.set_cons_succ]
  try dsimp only
  refine wpAnyH_done (by kernel_rfl) ?_ _
  go_wp2
  go_ret
  exact ⟨_, rfl, hO, hbn⟩
set_option maxRecDepth 100000 in
set_option maxHeartbeats 2000000 in
theorem messageFields_11 (g : Nat) (w : World) (c0 : w.cell? ⟨g, 0, none⟩ = some (.int .i64 11)) (hg : g < w.heap.size) :
    Calls Try.prog 22 #[.pointer (some ⟨g, 0, none⟩)] w fun e w' => ∃ v, e = .returned v ∧ Own3 mv okS g w.heap.size w' v (fdM 11) ∧ Below w.heap.size w w' := by
  go_enter Try.func22, Try.ntmps22
  go_wp2_with fail
  have hb0 : Below w.heap.size w w.drew := Below.drew (Below.refl _ _)
  refine wp_region_held_drew (S := (fun _ => True)) (by kernel_rfl) trivial (fun _ => ?_)
  refine wpAnyH_take (i := 0) (oi := Oper.mk (some 99) _ _ _ _ _) (v := ?_) rfl (by kernel_rfl) (by kernel_rfl) (by kernel_rfl) (fun _ _ _ h => h) (Or.inl ⟨by rfl, ?_⟩) trivial ?_
  rotate_left
  · intro w hSw
    go_simp
    try with_reducible rfl
  simp only [Act.put, List.setIfInBounds_toArray, List.set_cons_zero, List.set_cons_succ]
  try dsimp only
  refine wpAnyH_take (i := 1) (oi := Oper.mk (some 100) _ _ _ _ _) (v := ?_) rfl (by kernel_rfl) (by kernel_rfl) (by kernel_rfl) (fun _ _ _ h => h) (Or.inl ⟨by rfl, ?_⟩) trivial ?_
  rotate_left
  · intro w hSw
    go_simp
    try with_reducible rfl
  simp only [Act.put, List.setIfInBounds_toArray, List.set_cons_zero, List.set_cons_succ]
  try dsimp only
  refine wpAnyH_take (i := 2) (oi := Oper.mk (some 101) _ _ _ _ _) (v := ?_) rfl (by kernel_rfl) (by kernel_rfl) (by kernel_rfl) (fun _ _ _ h => h) (Or.inl ⟨by rfl, ?_⟩) trivial ?_
  rotate_left
  · intro w hSw
    go_simp
    try with_reducible rfl
  simp only [Act.put, List.setIfInBounds_toArray, List.set_cons_zero, List.set_cons_succ]
  try dsimp only
  refine wpAnyH_take (i := 4) (oi := Oper.mk (some 103) _ _ _ _ _) (v := ?_) rfl (by kernel_rfl) (by kernel_rfl) (by kernel_rfl) (fun _ _ _ h => h) (Or.inl ⟨by rfl, ?_⟩) trivial ?_
  rotate_left
  · intro w hSw
    go_simp
    try with_reducible rfl
  simp only [Act.put, List.setIfInBounds_toArray, List.set_cons_zero, List.set_cons_succ]
  try dsimp only
  refine wpAnyH_take (i := 5) (oi := Oper.mk (some 104) _ _ _ _ _) (v := ?_) rfl (by kernel_rfl) (by kernel_rfl) (by kernel_rfl) (fun _ _ _ h => h) (Or.inl ⟨by rfl, ?_⟩) trivial ?_
  rotate_left
  · intro w hSw
    go_simp
    try with_reducible rfl
  simp only [Act.put, List.setIfInBounds_toArray, List.set_cons_zero, List.set_cons_succ]
  try dsimp only
  refine wpAnyH_take (i := 6) (oi := Oper.mk (some 105) _ _ _ _ _) (v := ?_) rfl (by kernel_rfl) (by kernel_rfl) (by kernel_rfl) (fun _ _ _ h => h) (Or.inl ⟨by rfl, ?_⟩) trivial ?_
  rotate_left
  · intro w hSw
    go_simp
    try with_reducible rfl
  simp only [Act.put, List.setIfInBounds_toArray, List.set_cons_zero, List.set_cons_succ]
  try dsimp only
  refine wpAnyH_take (i := 8) (oi := Oper.mk (some 107) _ _ _ _ _) (v := ?_) rfl (by kernel_rfl) (by kernel_rfl) (by kernel_rfl) (fun _ _ _ h => h) (Or.inl ⟨by rfl, ?_⟩) trivial ?_
  rotate_left
  · intro w hSw
    go_simp
    try with_reducible rfl
  simp only [Act.put, List.setIfInBounds_toArray, List.set_cons_zero, List.set_cons_succ]
  try dsimp only
  refine wpAnyH_take (i := 9) (oi := Oper.mk (some 108) _ _ _ _ _) (v := ?_) rfl (by kernel_rfl) (by kernel_rfl) (by kernel_rfl) (fun _ _ _ h => h) (Or.inl ⟨by rfl, ?_⟩) trivial ?_
  rotate_left
  · intro w hSw
    go_simp
    try with_reducible rfl
  simp only [Act.put, List.setIfInBounds_toArray, List.set_cons_zero, List.set_cons_succ]
  try dsimp only
  refine wpAnyH_take (i := 10) (oi := Oper.mk (some 109) _ _ _ _ _) (v := ?_) rfl (by kernel_rfl) (by kernel_rfl) (by kernel_rfl) (fun _ _ _ h => h) (Or.inl ⟨by rfl, ?_⟩) trivial ?_
  rotate_left
  · intro w hSw
    go_simp
    try with_reducible rfl
  simp only [Act.put, List.setIfInBounds_toArray, List.set_cons_zero, List.set_cons_succ]
  try dsimp only
  refine wpAnyH_take (i := 12) (oi := Oper.mk (some 111) _ _ _ _ _) (v := ?_) rfl (by kernel_rfl) (by kernel_rfl) (by kernel_rfl) (fun _ _ _ h => h) (Or.inl ⟨by rfl, ?_⟩) trivial ?_
  rotate_left
  · intro w hSw
    go_simp
    try with_reducible rfl
  simp only [Act.put, List.setIfInBounds_toArray, List.set_cons_zero, List.set_cons_succ]
  try dsimp only
  refine wpAnyH_take (i := 13) (oi := Oper.mk (some 112) _ _ _ _ _) (v := ?_) rfl (by kernel_rfl) (by kernel_rfl) (by kernel_rfl) (fun _ _ _ h => h) (Or.inl ⟨by rfl, ?_⟩) trivial ?_
  rotate_left
  · intro w hSw
    go_simp
    try with_reducible rfl
  simp only [Act.put, List.setIfInBounds_toArray, List.set_cons_zero, List.set_cons_succ]
  try dsimp only
  refine wpAnyH_take (i := 14) (oi := Oper.mk (some 113) _ _ _ _ _) (v := ?_) rfl (by kernel_rfl) (by kernel_rfl) (by kernel_rfl) (fun _ _ _ h => h) (Or.inl ⟨by rfl, ?_⟩) trivial ?_
  rotate_left
  · intro w hSw
    go_simp
    try with_reducible rfl
  simp only [Act.put, List.setIfInBounds_toArray, List.set_cons_zero, List.set_cons_succ]
  try dsimp only
  refine wpAnyH_take (i := 17) (oi := Oper.mk (some 116) _ _ _ _ _) (v := ?_) rfl (by kernel_rfl) (by kernel_rfl) (by kernel_rfl) (fun _ _ _ h => h) (Or.inl ⟨by rfl, ?_⟩) trivial ?_
  rotate_left
  · intro w hSw
    go_simp
    try with_reducible rfl
  simp only [Act.put, List.setIfInBounds_toArray, List.set_cons_zero, List.set_cons_succ]
  try dsimp only
  refine wpAnyH_take (i := 18) (oi := Oper.mk (some 117) _ _ _ _ _) (v := ?_) rfl (by kernel_rfl) (by kernel_rfl) (by kernel_rfl) (fun _ _ _ h => h) (Or.inl ⟨by rfl, ?_⟩) trivial ?_
  rotate_left
  · intro w hSw
    go_simp
    try with_reducible rfl
  simp only [Act.put, List.setIfInBounds_toArray, List.set_cons_zero, List.set_cons_succ]
  try dsimp only
  refine wpAnyH_take (i := 19) (oi := Oper.mk (some 118) _ _ _ _ _) (v := ?_) rfl (by kernel_rfl) (by kernel_rfl) (by kernel_rfl) (fun _ _ _ h => h) (Or.inl ⟨by rfl, ?_⟩) trivial ?_
  rotate_left
  · intro w hSw
    go_simp
    try with_reducible rfl
  simp only [Act.put, List.setIfInBounds_toArray, List.set_cons_zero, List.set_cons_succ]
  try dsimp only
  refine wpAnyH_ready (rs := [3]) (by kernel_rfl) (by simp) ?_
  refine AllReadyH.cons (o := Oper.mk (some 102) _ _ _ _ _) rfl (fun F hF => ?_) AllReadyH.nil
  go_simp
  refine (kind_fd plKind g w.drew hg).mono ?_
  intro e w1 hm
  obtain ⟨k1, f1, e1, rfl, q1, q1', hF1, hn1⟩ := hm.open_
  clear hm
  have hz0 := hb0.size
  have hb1 := hb0.trans (hn1.mono hz0)
  clear hn1
  try dsimp only
  refine hF.out _ _ trivial (fun _ => ?_)
  clear hF F
  refine wpAnyH_ready (rs := [7]) (by kernel_rfl) (by simp) ?_
  refine AllReadyH.cons (o := Oper.mk (some 106) _ _ _ _ _) rfl (fun F hF => ?_) AllReadyH.nil
  go_simp
  refine (seq_fd plSeq g w1 (Nat.lt_of_lt_of_le hg hb1.size)).mono ?_
  intro e w2 hm
  obtain ⟨k2, f2, e2, rfl, q2, q2', hF2, hn2⟩ := hm.open_
  clear hm
  have hz1 := hb1.size
  have hb2 := hb1.trans (hn2.mono hz1)
  replace hF1 := hF1.since hn2
  clear hn2
  try dsimp only
  refine hF.out _ _ trivial (fun _ => ?_)
  clear hF F
  refine wpAnyH_ready (rs := [11]) (by kernel_rfl) (by simp) ?_
  refine AllReadyH.cons (o := Oper.mk (some 110) _ _ _ _ _) rfl (fun F hF => ?_) AllReadyH.nil
  go_simp
  refine (epoch_fd plEpoch g w2 (Nat.lt_of_lt_of_le hg hb2.size)).mono ?_
  intro e w3 hm
  obtain ⟨k3, f3, e3, rfl, q3, q3', hF3, hn3⟩ := hm.open_
  clear hm
  have hz2 := hb2.size
  have hb3 := hb2.trans (hn3.mono hz2)
  replace hF1 := hF1.since hn3
  replace hF2 := hF2.since hn3
  clear hn3
  try dsimp only
  refine hF.out _ _ trivial (fun _ => ?_)
  clear hF F
  refine wpAnyH_ready (rs := [15]) (by kernel_rfl) (by simp) ?_
  refine AllReadyH.cons (o := Oper.mk (some 114) _ _ _ _ _) rfl (fun F hF => ?_) AllReadyH.nil
  go_simp
  refine (class_fd plCls g w3 (Nat.lt_of_lt_of_le hg hb3.size)).mono ?_
  intro e w4 hm
  obtain ⟨k4, f4, e4, rfl, q4, q4', hF4, hn4⟩ := hm.open_
  clear hm
  have hz3 := hb3.size
  have hb4 := hb3.trans (hn4.mono hz3)
  replace hF1 := hF1.since hn4
  replace hF2 := hF2.since hn4
  replace hF3 := hF3.since hn4
  clear hn4
  try dsimp only
  refine hF.out _ _ trivial (fun _ => ?_)
  clear hF F
  have hF : Fds mv okS g (fun b => w.heap.size ≤ b) w4 [fKind, fSeq, fEpoch, fCls] _ := (Fds.cons hF1 hz0 (Fds.cons hF2 hz1 (Fds.cons hF3 hz2 (Fds.cons hF4 hz3 (rfl : Fds mv okS g (fun b => w.heap.size ≤ b) w4 [] [])))))
  have hzn := hb4.size
  have hOA := Own3.lit hF hzn 4 rfl (by decide) #[.int .i64 k1, f1, e1, .int .i64 k2, f2, e2, .int .i64 k3, f3, e3, .int .i64 k4, f4, e4] rfl
  have hbn : Below w.heap.size w (w4.alloc (.cells #[.int .i64 k1, f1, e1, .int .i64 k2, f2, e2, .int .i64 k3, f3, e3, .int .i64 k4, f4, e4] 66)) := hb4.alloc hzn _
  clear hF1 hF2 hF3 hF4
  have hgn : g < w4.heap.size := Nat.lt_of_lt_of_le hg hzn
  refine wpAnyH_ready (rs := [16, 20]) (by kernel_rfl) (by simp) ?_
  refine AllReadyH.cons (o := Oper.mk (some 115) _ _ _ _ _) rfl (fun F hF' => ?_) (AllReadyH.cons (o := Oper.mk (some 119) _ _ _ _ _) rfl (fun F hF' => ?_) AllReadyH.nil)
  · go_simp
    refine hF'.out _ _ trivial (fun _ => ?_)
    clear hF' F hF
    have hAX : Calls Try.prog 42 #[.pointer (some ⟨g, 8, none⟩)] (w4.alloc (.cells #[.int .i64 k1, f1, e1, .int .i64 k2, f2, e2, .int .i64 k3, f3, e3, .int .i64 k4, f4, e4] 66)) fun e w' => ∃ v, e = .returned v ∧ Own3 mv okS g (w4.alloc (.cells #[.int .i64 k1, f1, e1, .int .i64 k2, f2, e2, .int .i64 k3, f3, e3, .int .i64 k4, f4, e4] 66)).heap.size w' v [fX0, fX1, fX2, fX3] ∧ Below (w4.alloc (.cells #[.int .i64 k1, f1, e1, .int .i64 k2, f2, e2, .int .i64 k3, f3, e3, .int .i64 k4, f4, e4] 66)).heap.size (w4.alloc (.cells #[.int .i64 k1, f1, e1, .int .i64 k2, f2, e2, .int .i64 k3, f3, e3, .int .i64 k4, f4, e4] 66)) w' := axes_fd (fun i => match i with | 0 => fX0 | 1 => fX1 | 2 => fX2 | _ => fX3) 8 _ (by simp; omega) (fun i hi V hV => by
        match i, hi with
        | 0, _ => exact axis_fd plX0 g V hV
        | 1, _ => exact axis_fd plX1 g V hV
        | 2, _ => exact axis_fd plX2 g V hV
        | 3, _ => exact axis_fd plX3 g V hV)
    refine wpAnyH_ready (rs := [20]) (by kernel_rfl) (by simp) ?_
    refine AllReadyH.cons (o := Oper.mk (some 119) _ _ _ _ _) rfl (fun F hF => ?_) AllReadyH.nil
    go_simp
    have hlt := (hOA.lt (k := w4.heap.size) rfl).2
    have hzW := hbn.size
    refine hAX.mono ?_
    rintro e w7 ⟨v7, rfl, hX, hn7⟩
    have hO7 := hOA.since hn7
    have hb7 := hbn.trans (hn7.mono hzW)
    have hz7 := hb7.size
    obtain ⟨A7, c7, rfl, hc7, ha7, hS7⟩ := hX.src
    have hM : Src3 mv okS g w.heap.size w7 (Value.slice (some ⟨w4.heap.size, 0, none⟩) 4 4).ownBlock A7 [fX0, fX1, fX2, fX3] := by
      obtain ⟨us, g1, g2⟩ := hS7
      exact ⟨us, g1, g2.mono fun b _ hb => ⟨Nat.le_trans hzW hb.1, fun e => by simp [Value.ownBlock] at e; omega⟩⟩
    clear hS7 hX hOA hAX hlt hzW hbn hn7 hzn hgn
    try dsimp only
    refine hF.out _ _ trivial (fun _ => ?_)
    clear hF F
    obtain ⟨v8, w8, hr8, hO8, hg8, hat8⟩ := append_fields w7 49 w.heap.size _ _ [fX0, fX1, fX2, fX3] hO7 A7 4 c7 rfl hM (by simp) hz7
    have hb8 : Below w.heap.size w w8 := hb7.grown hg8 hz7 fun k e => (hO7.lt e).1
    clear hM hO7
    refine wpAnyH_ready (rs := [21]) (by kernel_rfl) (by simp) ?_
    refine AllReadyH.cons (o := Oper.mk (some 120) _ _ _ _ _) rfl (fun F hF => ?_) AllReadyH.nil
    rw [if_pos (by rfl)]
    refine Lib.wp_append_run _ _ _ _ _ rfl _ _ rfl rfl _ _ hr8 ?_
    try dsimp only
    refine hF.out _ _ trivial (fun _ => ?_)
    clear hF F
    refine wpAnyH_take (i := 22) (oi := Oper.mk (some 2) _ _ _ _ _) (v := ?_) rfl (by kernel_rfl) (by kernel_rfl) (by kernel_rfl) (fun _ _ _ h => h) (Or.inl ⟨by rfl, ?_⟩) trivial ?_
    rotate_left
    · intro w hSw
      go_simp
      try with_reducible rfl
    simp only [Act.put, List.setIfInBounds_toArray, List.set_cons_zero, List.set_cons_succ]
    try dsimp only
    refine wpAnyH_done (by kernel_rfl) ?_ _
    go_wp2
    go_ret
    exact ⟨_, rfl, hO8, hb8⟩
  · clear hOA hbn
    have hAX : Calls Try.prog 42 #[.pointer (some ⟨g, 8, none⟩)] w4 fun e w' => ∃ v, e = .returned v ∧ Own3 mv okS g w4.heap.size w' v [fX0, fX1, fX2, fX3] ∧ Below w4.heap.size w4 w' := axes_fd (fun i => match i with | 0 => fX0 | 1 => fX1 | 2 => fX2 | _ => fX3) 8 _ hgn (fun i hi V hV => by
        match i, hi with
        | 0, _ => exact axis_fd plX0 g V hV
        | 1, _ => exact axis_fd plX1 g V hV
        | 2, _ => exact axis_fd plX2 g V hV
        | 3, _ => exact axis_fd plX3 g V hV)
    go_simp
    refine hAX.mono ?_
    rintro e w6 ⟨v6, rfl, hX, hn6⟩
    have hb6 := hb4.trans (hn6.mono hzn)
    have hz6 := hb6.size
    have hO7 := Own3.lit (hF.since hn6) hz6 4 rfl (by decide) #[.int .i64 k1, f1, e1, .int .i64 k2, f2, e2, .int .i64 k3, f3, e3, .int .i64 k4, f4, e4] rfl
    obtain ⟨A7, c7, rfl, hc7, ha7, hS7⟩ := hX.src
    obtain ⟨w7, e7⟩ : ∃ w7, w7 = w6.alloc (.cells #[.int .i64 k1, f1, e1, .int .i64 k2, f2, e2, .int .i64 k3, f3, e3, .int .i64 k4, f4, e4] 66) := ⟨_, rfl⟩
    have hn7 : Below w6.heap.size w6 (w6.alloc (.cells #[.int .i64 k1, f1, e1, .int .i64 k2, f2, e2, .int .i64 k3, f3, e3, .int .i64 k4, f4, e4] 66)) := (Below.refl _ _).alloc (Nat.le_refl _) _
    have hM : Src3 mv okS g w.heap.size (w6.alloc (.cells #[.int .i64 k1, f1, e1, .int .i64 k2, f2, e2, .int .i64 k3, f3, e3, .int .i64 k4, f4, e4] 66)) (Value.slice (some ⟨w6.heap.size, 0, none⟩) 4 4).ownBlock A7 [fX0, fX1, fX2, fX3] := by
      obtain ⟨us, g1, g2⟩ := hS7
      exact ⟨us, g1.keep hn7, g2.keep (Keeps.of_below hn7) fun b hl hb => ⟨Nat.le_trans hzn hb.1, fun e => by simp [Value.ownBlock] at e; omega⟩⟩
    have hb7 := hb6.trans (hn7.mono hz6)
    clear hS7 hX hF hAX hn7 hn6 hzn hgn
    try dsimp only
    refine hF'.out _ _ trivial (fun _ => ?_)
    clear hF' F
    refine wpAnyH_ready (rs := [16]) (by kernel_rfl) (by simp) ?_
    refine AllReadyH.cons (o := Oper.mk (some 115) _ _ _ _ _) rfl (fun F hF => ?_) AllReadyH.nil
    go_simp
    rw [← e7] at hO7 hM hb7 ⊢
    have hz7 := hb7.size
    try dsimp only
    refine hF.out _ _ trivial (fun _ => ?_)
    clear hF F
    obtain ⟨v8, w8, hr8, hO8, hg8, hat8⟩ := append_fields w7 49 w.heap.size _ _ [fX0, fX1, fX2, fX3] hO7 A7 4 c7 rfl hM (by simp) hz7
    have hb8 : Below w.heap.size w w8 := hb7.grown hg8 hz7 fun k e => (hO7.lt e).1
    clear hM hO7
    refine wpAnyH_ready (rs := [21]) (by kernel_rfl) (by simp) ?_
    refine AllReadyH.cons (o := Oper.mk (some 120) _ _ _ _ _) rfl (fun F hF => ?_) AllReadyH.nil
    rw [if_pos (by rfl)]
    refine Lib.wp_append_run _ _ _ _ _ rfl _ _ rfl rfl _ _ hr8 ?_
    try dsimp only
    refine hF.out _ _ trivial (fun _ => ?_)
    clear hF F
    refine wpAnyH_take (i := 22) (oi := Oper.mk (some 2) _ _ _ _ _) (v := ?_) rfl (by kernel_rfl) (by kernel_rfl) (by kernel_rfl) (fun _ _ _ h => h) (Or.inl ⟨by rfl, ?_⟩) trivial ?_
    rotate_left
    · intro w hSw
      go_simp
      try with_reducible rfl
    simp only [Act.put, List.setIfInBounds_toArray, List.set_cons_zero, List.set_cons_succ]
    try dsimp only
    refine wpAnyH_done (by kernel_rfl) ?_ _
    go_wp2
    go_ret
    exact ⟨_, rfl, hO8, hb8⟩
set_option maxRecDepth 100000 in
set_option maxHeartbeats 2000000 in
theorem replyFields_129 (g : Nat) (w : World) (c0 : w.cell? ⟨g, 0, none⟩ = some (.int .i64 129)) (hg : g < w.heap.size) :
    Calls Try.prog 31 #[.pointer (some ⟨g, 0, none⟩)] w fun e w' => ∃ v, e = .returned v ∧ Own3 rv okT g w.heap.size w' v (fdR 129) ∧ Below w.heap.size w w' := by
  go_enter Try.func31, Try.ntmps31
  go_wp2_with fail
  have hb0 : Below w.heap.size w w.drew := Below.drew (Below.refl _ _)
  refine wp_region_held_drew (S := (fun _ => True)) (by kernel_rfl) trivial (fun _ => ?_)
  refine wpAnyH_take (i := 0) (oi := Oper.mk (some 9) _ _ _ _ _) (v := ?_) rfl (by kernel_rfl) (by kernel_rfl) (by kernel_rfl) (fun _ _ _ h => h) (Or.inl ⟨by rfl, ?_⟩) trivial ?_
  rotate_left
  · intro w hSw
    go_simp
    try with_reducible rfl
  simp only [Act.put, List.setIfInBounds_toArray, List.set_cons_zero, List.set_cons_succ]
  try dsimp only
  refine wpAnyH_take (i := 1) (oi := Oper.mk (some 10) _ _ _ _ _) (v := ?_) rfl (by kernel_rfl) (by kernel_rfl) (by kernel_rfl) (fun _ _ _ h => h) (Or.inl ⟨by rfl, ?_⟩) trivial ?_
  rotate_left
  · intro w hSw
    go_simp
    try with_reducible rfl
  simp only [Act.put, List.setIfInBounds_toArray, List.set_cons_zero, List.set_cons_succ]
  try dsimp only
  refine wpAnyH_take (i := 2) (oi := Oper.mk (some 11) _ _ _ _ _) (v := ?_) rfl (by kernel_rfl) (by kernel_rfl) (by kernel_rfl) (fun _ _ _ h => h) (Or.inl ⟨by rfl, ?_⟩) trivial ?_
  rotate_left
  · intro w hSw
    go_simp
    try with_reducible rfl
  simp only [Act.put, List.setIfInBounds_toArray, List.set_cons_zero, List.set_cons_succ]
  try dsimp only
  refine wpAnyH_take (i := 4) (oi := Oper.mk (some 13) _ _ _ _ _) (v := ?_) rfl (by kernel_rfl) (by kernel_rfl) (by kernel_rfl) (fun _ _ _ h => h) (Or.inl ⟨by rfl, ?_⟩) trivial ?_
  rotate_left
  · intro w hSw
    go_simp
    try with_reducible rfl
  simp only [Act.put, List.setIfInBounds_toArray, List.set_cons_zero, List.set_cons_succ]
  try dsimp only
  refine wpAnyH_take (i := 5) (oi := Oper.mk (some 14) _ _ _ _ _) (v := ?_) rfl (by kernel_rfl) (by kernel_rfl) (by kernel_rfl) (fun _ _ _ h => h) (Or.inl ⟨by rfl, ?_⟩) trivial ?_
  rotate_left
  · intro w hSw
    go_simp
    try with_reducible rfl
  simp only [Act.put, List.setIfInBounds_toArray, List.set_cons_zero, List.set_cons_succ]
  try dsimp only
  refine wpAnyH_take (i := 6) (oi := Oper.mk (some 15) _ _ _ _ _) (v := ?_) rfl (by kernel_rfl) (by kernel_rfl) (by kernel_rfl) (fun _ _ _ h => h) (Or.inl ⟨by rfl, ?_⟩) trivial ?_
  rotate_left
  · intro w hSw
    go_simp
    try with_reducible rfl
  simp only [Act.put, List.setIfInBounds_toArray, List.set_cons_zero, List.set_cons_succ]
  try dsimp only
  refine wpAnyH_ready (rs := [3]) (by kernel_rfl) (by simp) ?_
  refine AllReadyH.cons (o := Oper.mk (some 12) _ _ _ _ _) rfl (fun F hF => ?_) AllReadyH.nil
  go_simp
  refine (kind_fd prKind g w.drew hg).mono ?_
  intro e w1 hm
  obtain ⟨k1, f1, e1, rfl, q1, q1', hF1, hn1⟩ := hm.open_
  clear hm
  have hz0 := hb0.size
  have hb1 := hb0.trans (hn1.mono hz0)
  clear hn1
  try dsimp only
  refine hF.out _ _ trivial (fun _ => ?_)
  clear hF F
  refine wpAnyH_ready (rs := [7]) (by kernel_rfl) (by simp) ?_
  refine AllReadyH.cons (o := Oper.mk (some 16) _ _ _ _ _) rfl (fun F hF => ?_) AllReadyH.nil
  go_simp
  refine (nonce_fd prNonce g w1 (Nat.lt_of_lt_of_le hg hb1.size)).mono ?_
  intro e w2 hm
  obtain ⟨k2, f2, e2, rfl, q2, q2', hF2, hn2⟩ := hm.open_
  clear hm
  have hz1 := hb1.size
  have hb2 := hb1.trans (hn2.mono hz1)
  replace hF1 := hF1.since hn2
  clear hn2
  try dsimp only
  refine hF.out _ _ trivial (fun _ => ?_)
  clear hF F
  have hF : Fds rv okT g (fun b => w.heap.size ≤ b) w2 [gKind, gNonce] _ := (Fds.cons hF1 hz0 (Fds.cons hF2 hz1 (rfl : Fds rv okT g (fun b => w.heap.size ≤ b) w2 [] [])))
  have hzn := hb2.size
  have hO := Own3.lit hF hzn 2 rfl (by decide) #[.int .i64 k1, f1, e1, .int .i64 k2, f2, e2] rfl
  have hbn : Below w.heap.size w (w2.alloc (.cells #[.int .i64 k1, f1, e1, .int .i64 k2, f2, e2] 66)) := hb2.alloc hzn _
  clear hF hF1 hF2
  refine wpAnyH_ready (rs := [8]) (by kernel_rfl) (by simp) ?_
  refine AllReadyH.cons (o := Oper.mk (some 17) _ _ _ _ _) rfl (fun F hF => ?_) AllReadyH.nil
  go_simp
  try dsimp only
  refine hF.out _ _ trivial (fun _ => ?_)
  clear hF F
  refine wpAnyH_take (i := 9) (oi := Oper.mk (some 2) _ _ _ _ _) (v := ?_) rfl (by kernel_rfl) (by kernel_rfl) (by kernel_rfl) (fun _ _ _ h => h) (Or.inl ⟨by rfl, ?_⟩) trivial ?_
  rotate_left
  · intro w hSw
    go_simp
    try with_reducible rfl
  simp only [Act.put, List.setIfInBounds_toArray, List.set_cons_zero, List.set_cons_succ]
  try dsimp only
  refine wpAnyH_done (by kernel_rfl) ?_ _
  go_wp2
  go_ret
  exact ⟨_, rfl, hO, hbn⟩
set_option maxRecDepth 100000 in
set_option maxHeartbeats 2000000 in
theorem replyFields_130 (g : Nat) (w : World) (c0 : w.cell? ⟨g, 0, none⟩ = some (.int .i64 130)) (hg : g < w.heap.size) :
    Calls Try.prog 31 #[.pointer (some ⟨g, 0, none⟩)] w fun e w' => ∃ v, e = .returned v ∧ Own3 rv okT g w.heap.size w' v (fdR 130) ∧ Below w.heap.size w w' := by
  go_enter Try.func31, Try.ntmps31
  go_wp2_with fail
  have hb0 : Below w.heap.size w w.drew := Below.drew (Below.refl _ _)
  refine wp_region_held_drew (S := (fun _ => True)) (by kernel_rfl) trivial (fun _ => ?_)
  refine wpAnyH_take (i := 0) (oi := Oper.mk (some 20) _ _ _ _ _) (v := ?_) rfl (by kernel_rfl) (by kernel_rfl) (by kernel_rfl) (fun _ _ _ h => h) (Or.inl ⟨by rfl, ?_⟩) trivial ?_
  rotate_left
  · intro w hSw
    go_simp
    try with_reducible rfl
  simp only [Act.put, List.setIfInBounds_toArray, List.set_cons_zero, List.set_cons_succ]
  try dsimp only
  refine wpAnyH_take (i := 1) (oi := Oper.mk (some 21) _ _ _ _ _) (v := ?_) rfl (by kernel_rfl) (by kernel_rfl) (by kernel_rfl) (fun _ _ _ h => h) (Or.inl ⟨by rfl, ?_⟩) trivial ?_
  rotate_left
  · intro w hSw
    go_simp
    try with_reducible rfl
  simp only [Act.put, List.setIfInBounds_toArray, List.set_cons_zero, List.set_cons_succ]
  try dsimp only
  refine wpAnyH_take (i := 2) (oi := Oper.mk (some 22) _ _ _ _ _) (v := ?_) rfl (by kernel_rfl) (by kernel_rfl) (by kernel_rfl) (fun _ _ _ h => h) (Or.inl ⟨by rfl, ?_⟩) trivial ?_
  rotate_left
  · intro w hSw
    go_simp
    try with_reducible rfl
  simp only [Act.put, List.setIfInBounds_toArray, List.set_cons_zero, List.set_cons_succ]
  try dsimp only
  refine wpAnyH_take (i := 4) (oi := Oper.mk (some 24) _ _ _ _ _) (v := ?_) rfl (by kernel_rfl) (by kernel_rfl) (by kernel_rfl) (fun _ _ _ h => h) (Or.inl ⟨by rfl, ?_⟩) trivial ?_
  rotate_left
  · intro w hSw
    go_simp
    try with_reducible rfl
  simp only [Act.put, List.setIfInBounds_toArray, List.set_cons_zero, List.set_cons_succ]
  try dsimp only
  refine wpAnyH_take (i := 5) (oi := Oper.mk (some 25) _ _ _ _ _) (v := ?_) rfl (by kernel_rfl) (by kernel_rfl) (by kernel_rfl) (fun _ _ _ h => h) (Or.inl ⟨by rfl, ?_⟩) trivial ?_
  rotate_left
  · intro w hSw
    go_simp
    try with_reducible rfl
  simp only [Act.put, List.setIfInBounds_toArray, List.set_cons_zero, List.set_cons_succ]
  try dsimp only
  refine wpAnyH_take (i := 6) (oi := Oper.mk (some 26) _ _ _ _ _) (v := ?_) rfl (by kernel_rfl) (by kernel_rfl) (by kernel_rfl) (fun _ _ _ h => h) (Or.inl ⟨by rfl, ?_⟩) trivial ?_
  rotate_left
  · intro w hSw
    go_simp
    try with_reducible rfl
  simp only [Act.put, List.setIfInBounds_toArray, List.set_cons_zero, List.set_cons_succ]
  try dsimp only
  refine wpAnyH_take (i := 8) (oi := Oper.mk (some 28) _ _ _ _ _) (v := ?_) rfl (by kernel_rfl) (by kernel_rfl) (by kernel_rfl) (fun _ _ _ h => h) (Or.inl ⟨by rfl, ?_⟩) trivial ?_
  rotate_left
  · intro w hSw
    go_simp
    try with_reducible rfl
  simp only [Act.put, List.setIfInBounds_toArray, List.set_cons_zero, List.set_cons_succ]
  try dsimp only
  refine wpAnyH_take (i := 9) (oi := Oper.mk (some 29) _ _ _ _ _) (v := ?_) rfl (by kernel_rfl) (by kernel_rfl) (by kernel_rfl) (fun _ _ _ h => h) (Or.inl ⟨by rfl, ?_⟩) trivial ?_
  rotate_left
  · intro w hSw
    go_simp
    try with_reducible rfl
  simp only [Act.put, List.setIfInBounds_toArray, List.set_cons_zero, List.set_cons_succ]
  try dsimp only
  refine wpAnyH_take (i := 10) (oi := Oper.mk (some 30) _ _ _ _ _) (v := ?_) rfl (by kernel_rfl) (by kernel_rfl) (by kernel_rfl) (fun _ _ _ h => h) (Or.inl ⟨by rfl, ?_⟩) trivial ?_
  rotate_left
  · intro w hSw
    go_simp
    try with_reducible rfl
  simp only [Act.put, List.setIfInBounds_toArray, List.set_cons_zero, List.set_cons_succ]
  try dsimp only
  refine wpAnyH_take (i := 12) (oi := Oper.mk (some 32) _ _ _ _ _) (v := ?_) rfl (by kernel_rfl) (by kernel_rfl) (by kernel_rfl) (fun _ _ _ h => h) (Or.inl ⟨by rfl, ?_⟩) trivial ?_
  rotate_left
  · intro w hSw
    go_simp
    try with_reducible rfl
  simp only [Act.put, List.setIfInBounds_toArray, List.set_cons_zero, List.set_cons_succ]
  try dsimp only
  refine wpAnyH_take (i := 13) (oi := Oper.mk (some 33) _ _ _ _ _) (v := ?_) rfl (by kernel_rfl) (by kernel_rfl) (by kernel_rfl) (fun _ _ _ h => h) (Or.inl ⟨by rfl, ?_⟩) trivial ?_
  rotate_left
  · intro w hSw
    go_simp
    try with_reducible rfl
  simp only [Act.put, List.setIfInBounds_toArray, List.set_cons_zero, List.set_cons_succ]
  try dsimp only
  refine wpAnyH_take (i := 14) (oi := Oper.mk (some 34) _ _ _ _ _) (v := ?_) rfl (by kernel_rfl) (by kernel_rfl) (by kernel_rfl) (fun _ _ _ h => h) (Or.inl ⟨by rfl, ?_⟩) trivial ?_
  rotate_left
  · intro w hSw
    go_simp
    try with_reducible rfl
  simp only [Act.put, List.setIfInBounds_toArray, List.set_cons_zero, List.set_cons_succ]
  try dsimp only
  refine wpAnyH_ready (rs := [3]) (by kernel_rfl) (by simp) ?_
  refine AllReadyH.cons (o := Oper.mk (some 23) _ _ _ _ _) rfl (fun F hF => ?_) AllReadyH.nil
  go_simp
  refine (kind_fd prKind g w.drew hg).mono ?_
  intro e w1 hm
  obtain ⟨k1, f1, e1, rfl, q1, q1', hF1, hn1⟩ := hm.open_
  clear hm
  have hz0 := hb0.size
  have hb1 := hb0.trans (hn1.mono hz0)
  clear hn1
  try dsimp only
  refine hF.out _ _ trivial (fun _ => ?_)
  clear hF F
  refine wpAnyH_ready (rs := [7]) (by kernel_rfl) (by simp) ?_
  refine AllReadyH.cons (o := Oper.mk (some 27) _ _ _ _ _) rfl (fun F hF => ?_) AllReadyH.nil
  go_simp
  refine (role_fd prRole g w1 (Nat.lt_of_lt_of_le hg hb1.size)).mono ?_
  intro e w2 hm
  obtain ⟨k2, f2, e2, rfl, q2, q2', hF2, hn2⟩ := hm.open_
  clear hm
  have hz1 := hb1.size
  have hb2 := hb1.trans (hn2.mono hz1)
  replace hF1 := hF1.since hn2
  clear hn2
  try dsimp only
  refine hF.out _ _ trivial (fun _ => ?_)
  clear hF F
  refine wpAnyH_ready (rs := [11]) (by kernel_rfl) (by simp) ?_
  refine AllReadyH.cons (o := Oper.mk (some 31) _ _ _ _ _) rfl (fun F hF => ?_) AllReadyH.nil
  go_simp
  refine (source_fd prWho g w2 (Nat.lt_of_lt_of_le hg hb2.size)).mono ?_
  intro e w3 hm
  obtain ⟨k3, f3, e3, rfl, q3, q3', hF3, hn3⟩ := hm.open_
  clear hm
  have hz2 := hb2.size
  have hb3 := hb2.trans (hn3.mono hz2)
  replace hF1 := hF1.since hn3
  replace hF2 := hF2.since hn3
  clear hn3
  try dsimp only
  refine hF.out _ _ trivial (fun _ => ?_)
  clear hF F
  refine wpAnyH_ready (rs := [15]) (by kernel_rfl) (by simp) ?_
  refine AllReadyH.cons (o := Oper.mk (some 35) _ _ _ _ _) rfl (fun F hF => ?_) AllReadyH.nil
  go_simp
  refine (epoch_fd prEpoch g w3 (Nat.lt_of_lt_of_le hg hb3.size)).mono ?_
  intro e w4 hm
  obtain ⟨k4, f4, e4, rfl, q4, q4', hF4, hn4⟩ := hm.open_
  clear hm
  have hz3 := hb3.size
  have hb4 := hb3.trans (hn4.mono hz3)
  replace hF1 := hF1.since hn4
  replace hF2 := hF2.since hn4
  replace hF3 := hF3.since hn4
  clear hn4
  try dsimp only
  refine hF.out _ _ trivial (fun _ => ?_)
  clear hF F
  have hF : Fds rv okT g (fun b => w.heap.size ≤ b) w4 [gKind, gRole, gWho, gEpoch] _ := (Fds.cons hF1 hz0 (Fds.cons hF2 hz1 (Fds.cons hF3 hz2 (Fds.cons hF4 hz3 (rfl : Fds rv okT g (fun b => w.heap.size ≤ b) w4 [] [])))))
  have hzn := hb4.size
  have hO := Own3.lit hF hzn 4 rfl (by decide) #[.int .i64 k1, f1, e1, .int .i64 k2, f2, e2, .int .i64 k3, f3, e3, .int .i64 k4, f4, e4] rfl
  have hbn : Below w.heap.size w (w4.alloc (.cells #[.int .i64 k1, f1, e1, .int .i64 k2, f2, e2, .int .i64 k3, f3, e3, .int .i64 k4, f4, e4] 66)) := hb4.alloc hzn _
  clear hF hF1 hF2 hF3 hF4
  refine wpAnyH_ready (rs := [16]) (by kernel_rfl) (by simp) ?_
  refine AllReadyH.cons (o := Oper.mk (some 36) _ _ _ _ _) rfl (fun F hF => ?_) AllReadyH.nil
  go_simp
  try dsimp only
  refine hF.out _ _ trivial (fun _ => ?_)
  clear hF F
  refine wpAnyH_take (i := 17) (oi := Oper.mk (some 2) _ _ _ _ _) (v := ?_) rfl (by kernel_rfl) (by kernel_rfl) (by kernel_rfl) (fun _ _ _ h => h) (Or.inl ⟨by rfl, ?_⟩) trivial ?_
  rotate_left
  · intro w hSw
    go_simp
    try with_reducible rfl
  simp only [Act.put, List.setIfInBounds_toArray, List.set_cons_zero, List.set_cons_succ]
  try dsimp only
  refine wpAnyH_done (by kernel_rfl) ?_ _
  go_wp2
  go_ret
  exact ⟨_, rfl, hO, hbn⟩
set_option maxRecDepth 100000 in
set_option maxHeartbeats 2000000 in
theorem replyFields_131 (g : Nat) (w : World) (c0 : w.cell? ⟨g, 0, none⟩ = some (.int .i64 131)) (hg : g < w.heap.size) :
    Calls Try.prog 31 #[.pointer (some ⟨g, 0, none⟩)] w fun e w' => ∃ v, e = .returned v ∧ Own3 rv okT g w.heap.size w' v (fdR 131) ∧ Below w.heap.size w w' := by
  go_enter Try.func31, Try.ntmps31
  go_wp2_with fail
  have hb0 : Below w.heap.size w w.drew := Below.drew (Below.refl _ _)
  refine wp_region_held_drew (S := (fun _ => True)) (by kernel_rfl) trivial (fun _ => ?_)
  refine wpAnyH_take (i := 0) (oi := Oper.mk (some 39) _ _ _ _ _) (v := ?_) rfl (by kernel_rfl) (by kernel_rfl) (by kernel_rfl) (fun _ _ _ h => h) (Or.inl ⟨by rfl, ?_⟩) trivial ?_
  rotate_left
  · intro w hSw
    go_simp
    try with_reducible rfl
  simp only [Act.put, List.setIfInBounds_toArray, List.set_cons_zero, List.set_cons_succ]
  try dsimp only
  refine wpAnyH_take (i := 1) (oi := Oper.mk (some 40) _ _ _ _ _) (v := ?_) rfl (by kernel_rfl) (by kernel_rfl) (by kernel_rfl) (fun _ _ _ h => h) (Or.inl ⟨by rfl, ?_⟩) trivial ?_
  rotate_left
  · intro w hSw
    go_simp
    try with_reducible rfl
  simp only [Act.put, List.setIfInBounds_toArray, List.set_cons_zero, List.set_cons_succ]
  try dsimp only
  refine wpAnyH_take (i := 2) (oi := Oper.mk (some 41) _ _ _ _ _) (v := ?_) rfl (by kernel_rfl) (by kernel_rfl) (by kernel_rfl) (fun _ _ _ h => h) (Or.inl ⟨by rfl, ?_⟩) trivial ?_
  rotate_left
  · intro w hSw
    go_simp
    try with_reducible rfl
  simp only [Act.put, List.setIfInBounds_toArray, List.set_cons_zero, List.set_cons_succ]
  try dsimp only
  refine wpAnyH_take (i := 4) (oi := Oper.mk (some 43) _ _ _ _ _) (v := ?_) rfl (by kernel_rfl) (by kernel_rfl) (by kernel_rfl) (fun _ _ _ h => h) (Or.inl ⟨by rfl, ?_⟩) trivial ?_
  rotate_left
  · intro w hSw
    go_simp
    try with_reducible rfl
  simp only [Act.put, List.setIfInBounds_toArray, List.set_cons_zero, List.set_cons_succ]
  try dsimp only
  refine wpAnyH_take (i := 5) (oi := Oper.mk (some 44) _ _ _ _ _) (v := ?_) rfl (by kernel_rfl) (by kernel_rfl) (by kernel_rfl) (fun _ _ _ h => h) (Or.inl ⟨by rfl, ?_⟩) trivial ?_
  rotate_left
  · intro w hSw
    go_simp
    try with_reducible rfl
  simp only [Act.put, List.setIfInBounds_toArray, List.set_cons_zero, List.set_cons_succ]
  try dsimp only
  refine wpAnyH_take (i := 6) (oi := Oper.mk (some 45) _ _ _ _ _) (v := ?_) rfl (by kernel_rfl) (by kernel_rfl) (by kernel_rfl) (fun _ _ _ h => h) (Or.inl ⟨by rfl, ?_⟩) trivial ?_
  rotate_left
  · intro w hSw
    go_simp
    try with_reducible rfl
  simp only [Act.put, List.setIfInBounds_toArray, List.set_cons_zero, List.set_cons_succ]
  try dsimp only
  refine wpAnyH_ready (rs := [3]) (by kernel_rfl) (by simp) ?_
  refine AllReadyH.cons (o := Oper.mk (some 42) _ _ _ _ _) rfl (fun F hF => ?_) AllReadyH.nil
  go_simp
  refine (kind_fd prKind g w.drew hg).mono ?_
  intro e w1 hm
  obtain ⟨k1, f1, e1, rfl, q1, q1', hF1, hn1⟩ := hm.open_
  clear hm
  have hz0 := hb0.size
  have hb1 := hb0.trans (hn1.mono hz0)
  clear hn1
  try dsimp only
  refine hF.out _ _ trivial (fun _ => ?_)
  clear hF F
  refine wpAnyH_ready (rs := [7]) (by kernel_rfl) (by simp) ?_
  refine AllReadyH.cons (o := Oper.mk (some 46) _ _ _ _ _) rfl (fun F hF => ?_) AllReadyH.nil
  go_simp
  refine (seq_fd prSeq g w1 (Nat.lt_of_lt_of_le hg hb1.size)).mono ?_
  intro e w2 hm
  obtain ⟨k2, f2, e2, rfl, q2, q2', hF2, hn2⟩ := hm.open_
  clear hm
  have hz1 := hb1.size
  have hb2 := hb1.trans (hn2.mono hz1)
  replace hF1 := hF1.since hn2
  clear hn2
  try dsimp only
  refine hF.out _ _ trivial (fun _ => ?_)
  clear hF F
  have hF : Fds rv okT g (fun b => w.heap.size ≤ b) w2 [gKind, gSeq] _ := (Fds.cons hF1 hz0 (Fds.cons hF2 hz1 (rfl : Fds rv okT g (fun b => w.heap.size ≤ b) w2 [] [])))
  have hzn := hb2.size
  have hO := Own3.lit hF hzn 2 rfl (by decide) #[.int .i64 k1, f1, e1, .int .i64 k2, f2, e2] rfl
  have hbn : Below w.heap.size w (w2.alloc (.cells #[.int .i64 k1, f1, e1, .int .i64 k2, f2, e2] 66)) := hb2.alloc hzn _
  clear hF hF1 hF2
  refine wpAnyH_ready (rs := [8]) (by kernel_rfl) (by simp) ?_
  refine AllReadyH.cons (o := Oper.mk (some 47) _ _ _ _ _) rfl (fun F hF => ?_) AllReadyH.nil
  go_simp
  try dsimp only
  refine hF.out _ _ trivial (fun _ => ?_)
  clear hF F
  refine wpAnyH_take (i := 9) (oi := Oper.mk (some 2) _ _ _ _ _) (v := ?_) rfl (by kernel_rfl) (by kernel_rfl) (by kernel_rfl) (fun _ _ _ h => h) (Or.inl ⟨by rfl, ?_⟩) trivial ?_
  rotate_left
  · intro w hSw
    go_simp
    try with_reducible rfl
  simp only [Act.put, List.setIfInBounds_toArray, List.set_cons_zero, List.set_cons_succ]
  try dsimp only
  refine wpAnyH_done (by kernel_rfl) ?_ _
  go_wp2
  go_ret
  exact ⟨_, rfl, hO, hbn⟩
set_option maxRecDepth 100000 in
set_option maxHeartbeats 2000000 in
theorem replyFields_132 (g : Nat) (w : World) (c0 : w.cell? ⟨g, 0, none⟩ = some (.int .i64 132)) (hg : g < w.heap.size) :
    Calls Try.prog 31 #[.pointer (some ⟨g, 0, none⟩)] w fun e w' => ∃ v, e = .returned v ∧ Own3 rv okT g w.heap.size w' v (fdR 132) ∧ Below w.heap.size w w' := by
  go_enter Try.func31, Try.ntmps31
  go_wp2_with fail
  have hb0 : Below w.heap.size w w.drew := Below.drew (Below.refl _ _)
  refine wp_region_held_drew (S := (fun _ => True)) (by kernel_rfl) trivial (fun _ => ?_)
  refine wpAnyH_take (i := 0) (oi := Oper.mk (some 50) _ _ _ _ _) (v := ?_) rfl (by kernel_rfl) (by kernel_rfl) (by kernel_rfl) (fun _ _ _ h => h) (Or.inl ⟨by rfl, ?_⟩) trivial ?_
  rotate_left
  · intro w hSw
    go_simp
    try with_reducible rfl
  simp only [Act.put, List.setIfInBounds_toArray, List.set_cons_zero, List.set_cons_succ]
  try dsimp only
  refine wpAnyH_take (i := 1) (oi := Oper.mk (some 51) _ _ _ _ _) (v := ?_) rfl (by kernel_rfl) (by kernel_rfl) (by kernel_rfl) (fun _ _ _ h => h) (Or.inl ⟨by rfl, ?_⟩) trivial ?_
  rotate_left
  · intro w hSw
    go_simp
    try with_reducible rfl
  simp only [Act.put, List.setIfInBounds_toArray, List.set_cons_zero, List.set_cons_succ]
  try dsimp only
  refine wpAnyH_take (i := 2) (oi := Oper.mk (some 52) _ _ _ _ _) (v := ?_) rfl (by kernel_rfl) (by kernel_rfl) (by kernel_rfl) (fun _ _ _ h => h) (Or.inl ⟨by rfl, ?_⟩) trivial ?_
  rotate_left
  · intro w hSw
    go_simp
    try with_reducible rfl
  simp only [Act.put, List.setIfInBounds_toArray, List.set_cons_zero, List.set_cons_succ]
  try dsimp only
  refine wpAnyH_take (i := 4) (oi := Oper.mk (some 54) _ _ _ _ _) (v := ?_) rfl (by kernel_rfl) (by kernel_rfl) (by kernel_rfl) (fun _ _ _ h => h) (Or.inl ⟨by rfl, ?_⟩) trivial ?_
  rotate_left
  · intro w hSw
    go_simp
    try with_reducible rfl
  simp only [Act.put, List.setIfInBounds_toArray, List.set_cons_zero, List.set_cons_succ]
  try dsimp only
  refine wpAnyH_take (i := 5) (oi := Oper.mk (some 55) _ _ _ _ _) (v := ?_) rfl (by kernel_rfl) (by kernel_rfl) (by kernel_rfl) (fun _ _ _ h => h) (Or.inl ⟨by rfl, ?_⟩) trivial ?_
  rotate_left
  · intro w hSw
    go_simp
    try with_reducible rfl
  simp only [Act.put, List.setIfInBounds_toArray, List.set_cons_zero, List.set_cons_succ]
  try dsimp only
  refine wpAnyH_take (i := 6) (oi := Oper.mk (some 56) _ _ _ _ _) (v := ?_) rfl (by kernel_rfl) (by kernel_rfl) (by kernel_rfl) (fun _ _ _ h => h) (Or.inl ⟨by rfl, ?_⟩) trivial ?_
  rotate_left
  · intro w hSw
    go_simp
    try with_reducible rfl
  simp only [Act.put, List.setIfInBounds_toArray, List.set_cons_zero, List.set_cons_succ]
  try dsimp only
  refine wpAnyH_take (i := 8) (oi := Oper.mk (some 58) _ _ _ _ _) (v := ?_) rfl (by kernel_rfl) (by kernel_rfl) (by kernel_rfl) (fun _ _ _ h => h) (Or.inl ⟨by rfl, ?_⟩) trivial ?_
  rotate_left
  · intro w hSw
    go_simp
    try with_reducible rfl
  simp only [Act.put, List.setIfInBounds_toArray, List.set_cons_zero, List.set_cons_succ]
  try dsimp only
  refine wpAnyH_take (i := 9) (oi := Oper.mk (some 59) _ _ _ _ _) (v := ?_) rfl (by kernel_rfl) (by kernel_rfl) (by kernel_rfl) (fun _ _ _ h => h) (Or.inl ⟨by rfl, ?_⟩) trivial ?_
  rotate_left
  · intro w hSw
    go_simp
    try with_reducible rfl
  simp only [Act.put, List.setIfInBounds_toArray, List.set_cons_zero, List.set_cons_succ]
  try dsimp only
  refine wpAnyH_take (i := 10) (oi := Oper.mk (some 60) _ _ _ _ _) (v := ?_) rfl (by kernel_rfl) (by kernel_rfl) (by kernel_rfl) (fun _ _ _ h => h) (Or.inl ⟨by rfl, ?_⟩) trivial ?_
  rotate_left
  · intro w hSw
    go_simp
    try with_reducible rfl
  simp only [Act.put, List.setIfInBounds_toArray, List.set_cons_zero, List.set_cons_succ]
  try dsimp only
  refine wpAnyH_ready (rs := [3]) (by kernel_rfl) (by simp) ?_
  refine AllReadyH.cons (o := Oper.mk (some 53) _ _ _ _ _) rfl (fun F hF => ?_) AllReadyH.nil
  go_simp
  refine (kind_fd prKind g w.drew hg).mono ?_
  intro e w1 hm
  obtain ⟨k1, f1, e1, rfl, q1, q1', hF1, hn1⟩ := hm.open_
  clear hm
  have hz0 := hb0.size
  have hb1 := hb0.trans (hn1.mono hz0)
  clear hn1
  try dsimp only
  refine hF.out _ _ trivial (fun _ => ?_)
  clear hF F
  refine wpAnyH_ready (rs := [7]) (by kernel_rfl) (by simp) ?_
  refine AllReadyH.cons (o := Oper.mk (some 57) _ _ _ _ _) rfl (fun F hF => ?_) AllReadyH.nil
  go_simp
  refine (seq_fd prSeq g w1 (Nat.lt_of_lt_of_le hg hb1.size)).mono ?_
  intro e w2 hm
  obtain ⟨k2, f2, e2, rfl, q2, q2', hF2, hn2⟩ := hm.open_
  clear hm
  have hz1 := hb1.size
  have hb2 := hb1.trans (hn2.mono hz1)
  replace hF1 := hF1.since hn2
  clear hn2
  try dsimp only
  refine hF.out _ _ trivial (fun _ => ?_)
  clear hF F
  refine wpAnyH_ready (rs := [11]) (by kernel_rfl) (by simp) ?_
  refine AllReadyH.cons (o := Oper.mk (some 61) _ _ _ _ _) rfl (fun F hF => ?_) AllReadyH.nil
  go_simp
  refine (code_fd prCode g w2 (Nat.lt_of_lt_of_le hg hb2.size)).mono ?_
  intro e w3 hm
  obtain ⟨k3, f3, e3, rfl, q3, q3', hF3, hn3⟩ := hm.open_
  clear hm
  have hz2 := hb2.size
  have hb3 := hb2.trans (hn3.mono hz2)
  replace hF1 := hF1.since hn3
  replace hF2 := hF2.since hn3
  clear hn3
  try dsimp only
  refine hF.out _ _ trivial (fun _ => ?_)
  clear hF F
  have hF : Fds rv okT g (fun b => w.heap.size ≤ b) w3 [gKind, gSeq, gCode] _ := (Fds.cons hF1 hz0 (Fds.cons hF2 hz1 (Fds.cons hF3 hz2 (rfl : Fds rv okT g (fun b => w.heap.size ≤ b) w3 [] []))))
  have hzn := hb3.size
  have hO := Own3.lit hF hzn 3 rfl (by decide) #[.int .i64 k1, f1, e1, .int .i64 k2, f2, e2, .int .i64 k3, f3, e3] rfl
  have hbn : Below w.heap.size w (w3.alloc (.cells #[.int .i64 k1, f1, e1, .int .i64 k2, f2, e2, .int .i64 k3, f3, e3] 66)) := hb3.alloc hzn _
  clear hF hF1 hF2 hF3
  refine wpAnyH_ready (rs := [12]) (by kernel_rfl) (by simp) ?_
  refine AllReadyH.cons (o := Oper.mk (some 62) _ _ _ _ _) rfl (fun F hF => ?_) AllReadyH.nil
  go_simp
  try dsimp only
  refine hF.out _ _ trivial (fun _ => ?_)
  clear hF F
  refine wpAnyH_take (i := 13) (oi := Oper.mk (some 2) _ _ _ _ _) (v := ?_) rfl (by kernel_rfl) (by kernel_rfl) (by kernel_rfl) (fun _ _ _ h => h) (Or.inl ⟨by rfl, ?_⟩) trivial ?_
  rotate_left
  · intro w hSw
    go_simp
    try with_reducible rfl
  simp only [Act.put, List.setIfInBounds_toArray, List.set_cons_zero, List.set_cons_succ]
  try dsimp only
  refine wpAnyH_done (by kernel_rfl) ?_ _
  go_wp2
  go_ret
  exact ⟨_, rfl, hO, hbn⟩
set_option maxRecDepth 100000 in
set_option maxHeartbeats 2000000 in
theorem replyFields_133 (g : Nat) (w : World) (c0 : w.cell? ⟨g, 0, none⟩ = some (.int .i64 133)) (hg : g < w.heap.size) :
    Calls Try.prog 31 #[.pointer (some ⟨g, 0, none⟩)] w fun e w' => ∃ v, e = .returned v ∧ Own3 rv okT g w.heap.size w' v (fdR 133) ∧ Below w.heap.size w w' := by
  go_enter Try.func31, Try.ntmps31
  go_wp2_with fail
  have hb0 : Below w.heap.size w w.drew := Below.drew (Below.refl _ _)
  refine wp_region_held_drew (S := (fun _ => True)) (by kernel_rfl) trivial (fun _ => ?_)
  refine wpAnyH_take (i := 0) (oi := Oper.mk (some 65) _ _ _ _ _) (v := ?_) rfl (by kernel_rfl) (by kernel_rfl) (by kernel_rfl) (fun _ _ _ h => h) (Or.inl ⟨by rfl, ?_⟩) trivial ?_
  rotate_left
  · intro w hSw
    go_simp
    try with_reducible rfl
  simp only [Act.put, List.setIfInBounds_toArray, List.set_cons_zero, List.set_cons_succ]
  try dsimp only
  refine wpAnyH_take (i := 1) (oi := Oper.mk (some 66) _ _ _ _ _) (v := ?_) rfl (by kernel_rfl) (by kernel_rfl) (by kernel_rfl) (fun _ _ _ h => h) (Or.inl ⟨by rfl, ?_⟩) trivial ?_
  rotate_left
  · intro w hSw
    go_simp
    try with_reducible rfl
  simp only [Act.put, List.setIfInBounds_toArray, List.set_cons_zero, List.set_cons_succ]
  try dsimp only
  refine wpAnyH_take (i := 2) (oi := Oper.mk (some 67) _ _ _ _ _) (v := ?_) rfl (by kernel_rfl) (by kernel_rfl) (by kernel_rfl) (fun _ _ _ h => h) (Or.inl ⟨by rfl, ?_⟩) trivial ?_
  rotate_left
  · intro w hSw
    go_simp
    try with_reducible rfl
  simp only [Act.put, List.setIfInBounds_toArray, List.set_cons_zero, List.set_cons_succ]
  try dsimp only
  refine wpAnyH_take (i := 4) (oi := Oper.mk (some 69) _ _ _ _ _) (v := ?_) rfl (by kernel_rfl) (by kernel_rfl) (by kernel_rfl) (fun _ _ _ h => h) (Or.inl ⟨by rfl, ?_⟩) trivial ?_
  rotate_left
  · intro w hSw
    go_simp
    try with_reducible rfl
  simp only [Act.put, List.setIfInBounds_toArray, List.set_cons_zero, List.set_cons_succ]
  try dsimp only
  refine wpAnyH_take (i := 5) (oi := Oper.mk (some 70) _ _ _ _ _) (v := ?_) rfl (by kernel_rfl) (by kernel_rfl) (by kernel_rfl) (fun _ _ _ h => h) (Or.inl ⟨by rfl, ?_⟩) trivial ?_
  rotate_left
  · intro w hSw
    go_simp
    try with_reducible rfl
  simp only [Act.put, List.setIfInBounds_toArray, List.set_cons_zero, List.set_cons_succ]
  try dsimp only
  refine wpAnyH_take (i := 6) (oi := Oper.mk (some 71) _ _ _ _ _) (v := ?_) rfl (by kernel_rfl) (by kernel_rfl) (by kernel_rfl) (fun _ _ _ h => h) (Or.inl ⟨by rfl, ?_⟩) trivial ?_
  rotate_left
  · intro w hSw
    go_simp
    try with_reducible rfl
  simp only [Act.put, List.setIfInBounds_toArray, List.set_cons_zero, List.set_cons_succ]
  try dsimp only
  refine wpAnyH_ready (rs := [3]) (by kernel_rfl) (by simp) ?_
  refine AllReadyH.cons (o := Oper.mk (some 68) _ _ _ _ _) rfl (fun F hF => ?_) AllReadyH.nil
  go_simp
  refine (kind_fd prKind g w.drew hg).mono ?_
  intro e w1 hm
  obtain ⟨k1, f1, e1, rfl, q1, q1', hF1, hn1⟩ := hm.open_
  clear hm
  have hz0 := hb0.size
  have hb1 := hb0.trans (hn1.mono hz0)
  clear hn1
  try dsimp only
  refine hF.out _ _ trivial (fun _ => ?_)
  clear hF F
  refine wpAnyH_ready (rs := [7]) (by kernel_rfl) (by simp) ?_
  refine AllReadyH.cons (o := Oper.mk (some 72) _ _ _ _ _) rfl (fun F hF => ?_) AllReadyH.nil
  go_simp
  refine (epoch_fd prEpoch g w1 (Nat.lt_of_lt_of_le hg hb1.size)).mono ?_
  intro e w2 hm
  obtain ⟨k2, f2, e2, rfl, q2, q2', hF2, hn2⟩ := hm.open_
  clear hm
  have hz1 := hb1.size
  have hb2 := hb1.trans (hn2.mono hz1)
  replace hF1 := hF1.since hn2
  clear hn2
  try dsimp only
  refine hF.out _ _ trivial (fun _ => ?_)
  clear hF F
  have hF : Fds rv okT g (fun b => w.heap.size ≤ b) w2 [gKind, gEpoch] _ := (Fds.cons hF1 hz0 (Fds.cons hF2 hz1 (rfl : Fds rv okT g (fun b => w.heap.size ≤ b) w2 [] [])))
  have hzn := hb2.size
  have hO := Own3.lit hF hzn 2 rfl (by decide) #[.int .i64 k1, f1, e1, .int .i64 k2, f2, e2] rfl
  have hbn : Below w.heap.size w (w2.alloc (.cells #[.int .i64 k1, f1, e1, .int .i64 k2, f2, e2] 66)) := hb2.alloc hzn _
  clear hF hF1 hF2
  refine wpAnyH_ready (rs := [8]) (by kernel_rfl) (by simp) ?_
  refine AllReadyH.cons (o := Oper.mk (some 73) _ _ _ _ _) rfl (fun F hF => ?_) AllReadyH.nil
  go_simp
  try dsimp only
  refine hF.out _ _ trivial (fun _ => ?_)
  clear hF F
  refine wpAnyH_take (i := 9) (oi := Oper.mk (some 2) _ _ _ _ _) (v := ?_) rfl (by kernel_rfl) (by kernel_rfl) (by kernel_rfl) (fun _ _ _ h => h) (Or.inl ⟨by rfl, ?_⟩) trivial ?_
  rotate_left
  · intro w hSw
    go_simp
    try with_reducible rfl
  simp only [Act.put, List.setIfInBounds_toArray, List.set_cons_zero, List.set_cons_succ]
  try dsimp only
  refine wpAnyH_done (by kernel_rfl) ?_ _
  go_wp2
  go_ret
  exact ⟨_, rfl, hO, hbn⟩
set_option maxRecDepth 100000 in
set_option maxHeartbeats 2000000 in
theorem replyFields_134 (g : Nat) (w : World) (c0 : w.cell? ⟨g, 0, none⟩ = some (.int .i64 134)) (hg : g < w.heap.size) :
    Calls Try.prog 31 #[.pointer (some ⟨g, 0, none⟩)] w fun e w' => ∃ v, e = .returned v ∧ Own3 rv okT g w.heap.size w' v (fdR 134) ∧ Below w.heap.size w w' := by
  go_enter Try.func31, Try.ntmps31
  go_wp2_with fail
  have hb0 : Below w.heap.size w w.drew := Below.drew (Below.refl _ _)
  refine wp_region_held_drew (S := (fun _ => True)) (by kernel_rfl) trivial (fun _ => ?_)
  refine wpAnyH_take (i := 0) (oi := Oper.mk (some 77) _ _ _ _ _) (v := ?_) rfl (by kernel_rfl) (by kernel_rfl) (by kernel_rfl) (fun _ _ _ h => h) (Or.inl ⟨by rfl, ?_⟩) trivial ?_
  rotate_left
  · intro w hSw
    go_simp
    try with_reducible rfl
  simp only [Act.put, List.setIfInBounds_toArray, List.set_cons_zero, List.set_cons_succ]
  try dsimp only
  refine wpAnyH_take (i := 1) (oi := Oper.mk (some 78) _ _ _ _ _) (v := ?_) rfl (by kernel_rfl) (by kernel_rfl) (by kernel_rfl) (fun _ _ _ h => h) (Or.inl ⟨by rfl, ?_⟩) trivial ?_
  rotate_left
  · intro w hSw
    go_simp
    try with_reducible rfl
  simp only [Act.put, List.setIfInBounds_toArray, List.set_cons_zero, List.set_cons_succ]
  try dsimp only
  refine wpAnyH_take (i := 2) (oi := Oper.mk (some 79) _ _ _ _ _) (v := ?_) rfl (by kernel_rfl) (by kernel_rfl) (by kernel_rfl) (fun _ _ _ h => h) (Or.inl ⟨by rfl, ?_⟩) trivial ?_
  rotate_left
  · intro w hSw
    go_simp
    try with_reducible rfl
  simp only [Act.put, List.setIfInBounds_toArray, List.set_cons_zero, List.set_cons_succ]
  try dsimp only
  refine wpAnyH_take (i := 4) (oi := Oper.mk (some 81) _ _ _ _ _) (v := ?_) rfl (by kernel_rfl) (by kernel_rfl) (by kernel_rfl) (fun _ _ _ h => h) (Or.inl ⟨by rfl, ?_⟩) trivial ?_
  rotate_left
  · intro w hSw
    go_simp
    try with_reducible rfl
  simp only [Act.put, List.setIfInBounds_toArray, List.set_cons_zero, List.set_cons_succ]
  try dsimp only
  refine wpAnyH_take (i := 5) (oi := Oper.mk (some 82) _ _ _ _ _) (v := ?_) rfl (by kernel_rfl) (by kernel_rfl) (by kernel_rfl) (fun _ _ _ h => h) (Or.inl ⟨by rfl, ?_⟩) trivial ?_
  rotate_left
  · intro w hSw
    go_simp
    try with_reducible rfl
  simp only [Act.put, List.setIfInBounds_toArray, List.set_cons_zero, List.set_cons_succ]
  try dsimp only
  refine wpAnyH_take (i := 6) (oi := Oper.mk (some 83) _ _ _ _ _) (v := ?_) rfl (by kernel_rfl) (by kernel_rfl) (by kernel_rfl) (fun _ _ _ h => h) (Or.inl ⟨by rfl, ?_⟩) trivial ?_
  rotate_left
  · intro w hSw
    go_simp
    try with_reducible rfl
  simp only [Act.put, List.setIfInBounds_toArray, List.set_cons_zero, List.set_cons_succ]
  try dsimp only
  refine wpAnyH_take (i := 8) (oi := Oper.mk (some 85) _ _ _ _ _) (v := ?_) rfl (by kernel_rfl) (by kernel_rfl) (by kernel_rfl) (fun _ _ _ h => h) (Or.inl ⟨by rfl, ?_⟩) trivial ?_
  rotate_left
  · intro w hSw
    go_simp
    try with_reducible rfl
  simp only [Act.put, List.setIfInBounds_toArray, List.set_cons_zero, List.set_cons_succ]
  try dsimp only
  refine wpAnyH_take (i := 9) (oi := Oper.mk (some 86) _ _ _ _ _) (v := ?_) rfl (by kernel_rfl) (by kernel_rfl) (by kernel_rfl) (fun _ _ _ h => h) (Or.inl ⟨by rfl, ?_⟩) trivial ?_
  rotate_left
  · intro w hSw
    go_simp
    try with_reducible rfl
  simp only [Act.put, List.setIfInBounds_toArray, List.set_cons_zero, List.set_cons_succ]
  try dsimp only
  refine wpAnyH_take (i := 10) (oi := Oper.mk (some 87) _ _ _ _ _) (v := ?_) rfl (by kernel_rfl) (by kernel_rfl) (by kernel_rfl) (fun _ _ _ h => h) (Or.inl ⟨by rfl, ?_⟩) trivial ?_
  rotate_left
  · intro w hSw
    go_simp
    try with_reducible rfl
  simp only [Act.put, List.setIfInBounds_toArray, List.set_cons_zero, List.set_cons_succ]
  try dsimp only
  refine wpAnyH_ready (rs := [3]) (by kernel_rfl) (by simp) ?_
  refine AllReadyH.cons (o := Oper.mk (some 80) _ _ _ _ _) rfl (fun F hF => ?_) AllReadyH.nil
  go_simp
  refine (kind_fd prKind g w.drew hg).mono ?_
  intro e w1 hm
  obtain ⟨k1, f1, e1, rfl, q1, q1', hF1, hn1⟩ := hm.open_
  clear hm
  have hz0 := hb0.size
  have hb1 := hb0.trans (hn1.mono hz0)
  clear hn1
  try dsimp only
  refine hF.out _ _ trivial (fun _ => ?_)
  clear hF F
  refine wpAnyH_ready (rs := [7]) (by kernel_rfl) (by simp) ?_
  refine AllReadyH.cons (o := Oper.mk (some 84) _ _ _ _ _) rfl (fun F hF => ?_) AllReadyH.nil
  go_simp
  refine (source_fd prWho g w1 (Nat.lt_of_lt_of_le hg hb1.size)).mono ?_
  intro e w2 hm
  obtain ⟨k2, f2, e2, rfl, q2, q2', hF2, hn2⟩ := hm.open_
  clear hm
  have hz1 := hb1.size
  have hb2 := hb1.trans (hn2.mono hz1)
  replace hF1 := hF1.since hn2
  clear hn2
  try dsimp only
  refine hF.out _ _ trivial (fun _ => ?_)
  clear hF F
  refine wpAnyH_ready (rs := [11]) (by kernel_rfl) (by simp) ?_
  refine AllReadyH.cons (o := Oper.mk (some 88) _ _ _ _ _) rfl (fun F hF => ?_) AllReadyH.nil
  go_simp
  refine (epoch_fd prEpoch g w2 (Nat.lt_of_lt_of_le hg hb2.size)).mono ?_
  intro e w3 hm
  obtain ⟨k3, f3, e3, rfl, q3, q3', hF3, hn3⟩ := hm.open_
  clear hm
  have hz2 := hb2.size
  have hb3 := hb2.trans (hn3.mono hz2)
  replace hF1 := hF1.since hn3
  replace hF2 := hF2.since hn3
  clear hn3
  try dsimp only
  refine hF.out _ _ trivial (fun _ => ?_)
  clear hF F
  have hF : Fds rv okT g (fun b => w.heap.size ≤ b) w3 [gKind, gWho, gEpoch] _ := (Fds.cons hF1 hz0 (Fds.cons hF2 hz1 (Fds.cons hF3 hz2 (rfl : Fds rv okT g (fun b => w.heap.size ≤ b) w3 [] []))))
  have hzn := hb3.size
  have hO := Own3.lit hF hzn 3 rfl (by decide) #[.int .i64 k1, f1, e1, .int .i64 k2, f2, e2, .int .i64 k3, f3, e3] rfl
  have hbn : Below w.heap.size w (w3.alloc (.cells #[.int .i64 k1, f1, e1, .int .i64 k2, f2, e2, .int .i64 k3, f3, e3] 66)) := hb3.alloc hzn _
  clear hF hF1 hF2 hF3
  refine wpAnyH_ready (rs := [12]) (by kernel_rfl) (by simp) ?_
  refine AllReadyH.cons (o := Oper.mk (some 89) _ _ _ _ _) rfl (fun F hF => ?_) AllReadyH.nil
  go_simp
  try dsimp only
  refine hF.out _ _ trivial (fun _ => ?_)
  clear hF F
  refine wpAnyH_take (i := 13) (oi := Oper.mk (some 2) _ _ _ _ _) (v := ?_) rfl (by kernel_rfl) (by kernel_rfl) (by kernel_rfl) (fun _ _ _ h => h) (Or.inl ⟨by rfl, ?_⟩) trivial ?_
  rotate_left
  · intro w hSw
    go_simp
    try with_reducible rfl
  simp only [Act.put, List.setIfInBounds_toArray, List.set_cons_zero, List.set_cons_succ]
  try dsimp only
  refine wpAnyH_done (by kernel_rfl) ?_ _
  go_wp2
  go_ret
  exact ⟨_, rfl, hO, hbn⟩
set_option maxRecDepth 100000 in
set_option maxHeartbeats 2000000 in
theorem replyFields_135 (g : Nat) (w : World) (c0 : w.cell? ⟨g, 0, none⟩ = some (.int .i64 135)) (hg : g < w.heap.size) :
    Calls Try.prog 31 #[.pointer (some ⟨g, 0, none⟩)] w fun e w' => ∃ v, e = .returned v ∧ Own3 rv okT g w.heap.size w' v (fdR 135) ∧ Below w.heap.size w w' := by
  go_enter Try.func31, Try.ntmps31
  go_wp2_with fail
  have hb0 : Below w.heap.size w w.drew := Below.drew (Below.refl _ _)
  refine wp_region_held_drew (S := (fun _ => True)) (by kernel_rfl) trivial (fun _ => ?_)
  refine wpAnyH_take (i := 0) (oi := Oper.mk (some 77) _ _ _ _ _) (v := ?_) rfl (by kernel_rfl) (by kernel_rfl) (by kernel_rfl) (fun _ _ _ h => h) (Or.inl ⟨by rfl, ?_⟩) trivial ?_
  rotate_left
  · intro w hSw
    go_simp
    try with_reducible rfl
  simp only [Act.put, List.setIfInBounds_toArray, List.set_cons_zero, List.set_cons_succ]
  try dsimp only
  refine wpAnyH_take (i := 1) (oi := Oper.mk (some 78) _ _ _ _ _) (v := ?_) rfl (by kernel_rfl) (by kernel_rfl) (by kernel_rfl) (fun _ _ _ h => h) (Or.inl ⟨by rfl, ?_⟩) trivial ?_
  rotate_left
  · intro w hSw
    go_simp
    try with_reducible rfl
  simp only [Act.put, List.setIfInBounds_toArray, List.set_cons_zero, List.set_cons_succ]
  try dsimp only
  refine wpAnyH_take (i := 2) (oi := Oper.mk (some 79) _ _ _ _ _) (v := ?_) rfl (by kernel_rfl) (by kernel_rfl) (by kernel_rfl) (fun _ _ _ h => h) (Or.inl ⟨by rfl, ?_⟩) trivial ?_
  rotate_left
  · intro w hSw
    go_simp
    try with_reducible rfl
  simp only [Act.put, List.setIfInBounds_toArray, List.set_cons_zero, List.set_cons_succ]
  try dsimp only
  refine wpAnyH_take (i := 4) (oi := Oper.mk (some 81) _ _ _ _ _) (v := ?_) rfl (by kernel_rfl) (by kernel_rfl) (by kernel_rfl) (fun _ _ _ h => h) (Or.inl ⟨by rfl, ?_⟩) trivial ?_
  rotate_left
  · intro w hSw
    go_simp
    try with_reducible rfl
  simp only [Act.put, List.setIfInBounds_toArray, List.set_cons_zero, List.set_cons_succ]
  try dsimp only
  refine wpAnyH_take (i := 5) (oi := Oper.mk (some 82) _ _ _ _ _) (v := ?_) rfl (by kernel_rfl) (by kernel_rfl) (by kernel_rfl) (fun _ _ _ h => h) (Or.inl ⟨by rfl, ?_⟩) trivial ?_
  rotate_left
  · intro w hSw
    go_simp
    try with_reducible rfl
  simp only [Act.put, List.setIfInBounds_toArray, List.set_cons_zero, List.set_cons_succ]
  try dsimp only
  refine wpAnyH_take (i := 6) (oi := Oper.mk (some 83) _ _ _ _ _) (v := ?_) rfl (by kernel_rfl) (by kernel_rfl) (by kernel_rfl) (fun _ _ _ h => h) (Or.inl ⟨by rfl, ?_⟩) trivial ?_
  rotate_left
  · intro w hSw
    go_simp
    try with_reducible rfl
  simp only [Act.put, List.setIfInBounds_toArray, List.set_cons_zero, List.set_cons_succ]
  try dsimp only
  refine wpAnyH_take (i := 8) (oi := Oper.mk (some 85) _ _ _ _ _) (v := ?_) rfl (by kernel_rfl) (by kernel_rfl) (by kernel_rfl) (fun _ _ _ h => h) (Or.inl ⟨by rfl, ?_⟩) trivial ?_
  rotate_left
  · intro w hSw
    go_simp
    try with_reducible rfl
  simp only [Act.put, List.setIfInBounds_toArray, List.set_cons_zero, List.set_cons_succ]
  try dsimp only
  refine wpAnyH_take (i := 9) (oi := Oper.mk (some 86) _ _ _ _ _) (v := ?_) rfl (by kernel_rfl) (by kernel_rfl) (by kernel_rfl) (fun _ _ _ h => h) (Or.inl ⟨by rfl, ?_⟩) trivial ?_
  rotate_left
  · intro w hSw
    go_simp
    try with_reducible rfl
  simp only [Act.put, List.setIfInBounds_toArray, List.set_cons_zero, List.set_cons_succ]
  try dsimp only
  refine wpAnyH_take (i := 10) (oi := Oper.mk (some 87) _ _ _ _ _) (v := ?_) rfl (by kernel_rfl) (by kernel_rfl) (by kernel_rfl) (fun _ _ _ h => h) (Or.inl ⟨by rfl, ?_⟩) trivial ?_
  rotate_left
  · intro w hSw
    go_simp
    try with_reducible rfl
  simp only [Act.put, List.setIfInBounds_toArray, List.set_cons_zero, List.set_cons_succ]
  try dsimp only
  refine wpAnyH_ready (rs := [3]) (by kernel_rfl) (by simp) ?_
  refine AllReadyH.cons (o := Oper.mk (some 80) _ _ _ _ _) rfl (fun F hF => ?_) AllReadyH.nil
  go_simp
  refine (kind_fd prKind g w.drew hg).mono ?_
  intro e w1 hm
  obtain ⟨k1, f1, e1, rfl, q1, q1', hF1, hn1⟩ := hm.open_
  clear hm
  have hz0 := hb0.size
  have hb1 := hb0.trans (hn1.mono hz0)
  clear hn1
  try dsimp only
  refine hF.out _ _ trivial (fun _ => ?_)
  clear hF F
  refine wpAnyH_ready (rs := [7]) (by kernel_rfl) (by simp) ?_
  refine AllReadyH.cons (o := Oper.mk (some 84) _ _ _ _ _) rfl (fun F hF => ?_) AllReadyH.nil
  go_simp
  refine (source_fd prWho g w1 (Nat.lt_of_lt_of_le hg hb1.size)).mono ?_
  intro e w2 hm
  obtain ⟨k2, f2, e2, rfl, q2, q2', hF2, hn2⟩ := hm.open_
  clear hm
  have hz1 := hb1.size
  have hb2 := hb1.trans (hn2.mono hz1)
  replace hF1 := hF1.since hn2
  clear hn2
  try dsimp only
  refine hF.out _ _ trivial (fun _ => ?_)
  clear hF F
  refine wpAnyH_ready (rs := [11]) (by kernel_rfl) (by simp) ?_
  refine AllReadyH.cons (o := Oper.mk (some 88) _ _ _ _ _) rfl (fun F hF => ?_) AllReadyH.nil
  go_simp
  refine (epoch_fd prEpoch g w2 (Nat.lt_of_lt_of_le hg hb2.size)).mono ?_
  intro e w3 hm
  obtain ⟨k3, f3, e3, rfl, q3, q3', hF3, hn3⟩ := hm.open_
  clear hm
  have hz2 := hb2.size
  have hb3 := hb2.trans (hn3.mono hz2)
  replace hF1 := hF1.since hn3
  replace hF2 := hF2.since hn3
  clear hn3
  try dsimp only
  refine hF.out _ _ trivial (fun _ => ?_)
  clear hF F
  have hF : Fds rv okT g (fun b => w.heap.size ≤ b) w3 [gKind, gWho, gEpoch] _ := (Fds.cons hF1 hz0 (Fds.cons hF2 hz1 (Fds.cons hF3 hz2 (rfl : Fds rv okT g (fun b => w.heap.size ≤ b) w3 [] []))))
  have hzn := hb3.size
  have hO := Own3.lit hF hzn 3 rfl (by decide) #[.int .i64 k1, f1, e1, .int .i64 k2, f2, e2, .int .i64 k3, f3, e3] rfl
  have hbn : Below w.heap.size w (w3.alloc (.cells #[.int .i64 k1, f1, e1, .int .i64 k2, f2, e2, .int .i64 k3, f3, e3] 66)) := hb3.alloc hzn _
  clear hF hF1 hF2 hF3
  refine wpAnyH_ready (rs := [12]) (by kernel_rfl) (by simp) ?_
  refine AllReadyH.cons (o := Oper.mk (some 89) _ _ _ _ _) rfl (fun F hF => ?_) AllReadyH.nil
  go_simp
  try dsimp only
  refine hF.out _ _ trivial (fun _ => ?_)
  clear hF F
  refine wpAnyH_take (i := 13) (oi := Oper.mk (some 2) _ _ _ _ _) (v := ?_) rfl (by kernel_rfl) (by kernel_rfl) (by kernel_rfl) (fun _ _ _ h => h) (Or.inl ⟨by rfl, ?_⟩) trivial ?_
  rotate_left
  · intro w hSw
    go_simp
    try with_reducible rfl
  simp only [Act.put, List.setIfInBounds_toArray, List.set_cons_zero, List.set_cons_succ]
  try dsimp only
  refine wpAnyH_done (by kernel_rfl) ?_ _
  go_wp2
  go_ret
  exact ⟨_, rfl, hO, hbn⟩
set_option maxRecDepth 100000 in
set_option maxHeartbeats 2000000 in
theorem replyFields_136 (g : Nat) (w : World) (c0 : w.cell? ⟨g, 0, none⟩ = some (.int .i64 136)) (hg : g < w.heap.size) :
    Calls Try.prog 31 #[.pointer (some ⟨g, 0, none⟩)] w fun e w' => ∃ v, e = .returned v ∧ Own3 rv okT g w.heap.size w' v (fdR 136) ∧ Below w.heap.size w w' := by
  go_enter Try.func31, Try.ntmps31
  go_wp2_with fail
  have hb0 : Below w.heap.size w w.drew := Below.drew (Below.refl _ _)
  refine wp_region_held_drew (S := (fun _ => True)) (by kernel_rfl) trivial (fun _ => ?_)
  refine wpAnyH_take (i := 0) (oi := Oper.mk (some 92) _ _ _ _ _) (v := ?_) rfl (by kernel_rfl) (by kernel_rfl) (by kernel_rfl) (fun _ _ _ h => h) (Or.inl ⟨by rfl, ?_⟩) trivial ?_
  rotate_left
  · intro w hSw
    go_simp
    try with_reducible rfl
  simp only [Act.put, List.setIfInBounds_toArray, List.set_cons_zero, List.set_cons_succ]
  try dsimp only
  refine wpAnyH_take (i := 1) (oi := Oper.mk (some 93) _ _ _ _ _) (v := ?_) rfl (by kernel_rfl) (by kernel_rfl) (by kernel_rfl) (fun _ _ _ h => h) (Or.inl ⟨by rfl, ?_⟩) trivial ?_
  rotate_left
  · intro w hSw
    go_simp
    try with_reducible rfl
  simp only [Act.put, List.setIfInBounds_toArray, List.set_cons_zero, List.set_cons_succ]
  try dsimp only
  refine wpAnyH_take (i := 2) (oi := Oper.mk (some 94) _ _ _ _ _) (v := ?_) rfl (by kernel_rfl) (by kernel_rfl) (by kernel_rfl) (fun _ _ _ h => h) (Or.inl ⟨by rfl, ?_⟩) trivial ?_
  rotate_left
  · intro w hSw
    go_simp
    try with_reducible rfl
  simp only [Act.put, List.setIfInBounds_toArray, List.set_cons_zero, List.set_cons_succ]
  try dsimp only
  refine wpAnyH_take (i := 4) (oi := Oper.mk (some 96) _ _ _ _ _) (v := ?_) rfl (by kernel_rfl) (by kernel_rfl) (by kernel_rfl) (fun _ _ _ h => h) (Or.inl ⟨by rfl, ?_⟩) trivial ?_
  rotate_left
  · intro w hSw
    go_simp
    try with_reducible rfl
  simp only [Act.put, List.setIfInBounds_toArray, List.set_cons_zero, List.set_cons_succ]
  try dsimp only
  refine wpAnyH_take (i := 5) (oi := Oper.mk (some 97) _ _ _ _ _) (v := ?_) rfl (by kernel_rfl) (by kernel_rfl) (by kernel_rfl) (fun _ _ _ h => h) (Or.inl ⟨by rfl, ?_⟩) trivial ?_
  rotate_left
  · intro w hSw
    go_simp
    try with_reducible rfl
  simp only [Act.put, List.setIfInBounds_toArray, List.set_cons_zero, List.set_cons_succ]
  try dsimp only
  refine wpAnyH_take (i := 6) (oi := Oper.mk (some 98) _ _ _ _ _) (v := ?_) rfl (by kernel_rfl) (by kernel_rfl) (by kernel_rfl) (fun _ _ _ h => h) (Or.inl ⟨by rfl, ?_⟩) trivial ?_
  rotate_left
  · intro w hSw
    go_simp
    try with_reducible rfl
  simp only [Act.put, List.setIfInBounds_toArray, List.set_cons_zero, List.set_cons_succ]
  try dsimp only
  refine wpAnyH_take (i := 8) (oi := Oper.mk (some 100) _ _ _ _ _) (v := ?_) rfl (by kernel_rfl) (by kernel_rfl) (by kernel_rfl) (fun _ _ _ h => h) (Or.inl ⟨by rfl, ?_⟩) trivial ?_
  rotate_left
  · intro w hSw
    go_simp
    try with_reducible rfl
  simp only [Act.put, List.setIfInBounds_toArray, List.set_cons_zero, List.set_cons_succ]
  try dsimp only
  refine wpAnyH_take (i := 9) (oi := Oper.mk (some 101) _ _ _ _ _) (v := ?_) rfl (by kernel_rfl) (by kernel_rfl) (by kernel_rfl) (fun _ _ _ h => h) (Or.inl ⟨by rfl, ?_⟩) trivial ?_
  rotate_left
  · intro w hSw
    go_simp
    try with_reducible rfl
  simp only [Act.put, List.setIfInBounds_toArray, List.set_cons_zero, List.set_cons_succ]
  try dsimp only
  refine wpAnyH_take (i := 10) (oi := Oper.mk (some 102) _ _ _ _ _) (v := ?_) rfl (by kernel_rfl) (by kernel_rfl) (by kernel_rfl) (fun _ _ _ h => h) (Or.inl ⟨by rfl, ?_⟩) trivial ?_
  rotate_left
  · intro w hSw
    go_simp
    try with_reducible rfl
  simp only [Act.put, List.setIfInBounds_toArray, List.set_cons_zero, List.set_cons_succ]
  try dsimp only
  refine wpAnyH_ready (rs := [3]) (by kernel_rfl) (by simp) ?_
  refine AllReadyH.cons (o := Oper.mk (some 95) _ _ _ _ _) rfl (fun F hF => ?_) AllReadyH.nil
  go_simp
  refine (kind_fd prKind g w.drew hg).mono ?_
  intro e w1 hm
  obtain ⟨k1, f1, e1, rfl, q1, q1', hF1, hn1⟩ := hm.open_
  clear hm
  have hz0 := hb0.size
  have hb1 := hb0.trans (hn1.mono hz0)
  clear hn1
  try dsimp only
  refine hF.out _ _ trivial (fun _ => ?_)
  clear hF F
  refine wpAnyH_ready (rs := [7]) (by kernel_rfl) (by simp) ?_
  refine AllReadyH.cons (o := Oper.mk (some 99) _ _ _ _ _) rfl (fun F hF => ?_) AllReadyH.nil
  go_simp
  refine (source_fd prWho g w1 (Nat.lt_of_lt_of_le hg hb1.size)).mono ?_
  intro e w2 hm
  obtain ⟨k2, f2, e2, rfl, q2, q2', hF2, hn2⟩ := hm.open_
  clear hm
  have hz1 := hb1.size
  have hb2 := hb1.trans (hn2.mono hz1)
  replace hF1 := hF1.since hn2
  clear hn2
  try dsimp only
  refine hF.out _ _ trivial (fun _ => ?_)
  clear hF F
  refine wpAnyH_ready (rs := [11]) (by kernel_rfl) (by simp) ?_
  refine AllReadyH.cons (o := Oper.mk (some 103) _ _ _ _ _) rfl (fun F hF => ?_) AllReadyH.nil
  go_simp
  refine (code_fd prCode g w2 (Nat.lt_of_lt_of_le hg hb2.size)).mono ?_
  intro e w3 hm
  obtain ⟨k3, f3, e3, rfl, q3, q3', hF3, hn3⟩ := hm.open_
  clear hm
  have hz2 := hb2.size
  have hb3 := hb2.trans (hn3.mono hz2)
  replace hF1 := hF1.since hn3
  replace hF2 := hF2.since hn3
  clear hn3
  try dsimp only
  refine hF.out _ _ trivial (fun _ => ?_)
  clear hF F
  have hF : Fds rv okT g (fun b => w.heap.size ≤ b) w3 [gKind, gWho, gCode] _ := (Fds.cons hF1 hz0 (Fds.cons hF2 hz1 (Fds.cons hF3 hz2 (rfl : Fds rv okT g (fun b => w.heap.size ≤ b) w3 [] []))))
  have hzn := hb3.size
  have hO := Own3.lit hF hzn 3 rfl (by decide) #[.int .i64 k1, f1, e1, .int .i64 k2, f2, e2, .int .i64 k3, f3, e3] rfl
  have hbn : Below w.heap.size w (w3.alloc (.cells #[.int .i64 k1, f1, e1, .int .i64 k2, f2, e2, .int .i64 k3, f3, e3] 66)) := hb3.alloc hzn _
  clear hF hF1 hF2 hF3
  refine wpAnyH_ready (rs := [12]) (by kernel_rfl) (by simp) ?_
  refine AllReadyH.cons (o := Oper.mk (some 104) _ _ _ _ _) rfl (fun F hF => ?_) AllReadyH.nil
  go_simp
  try dsimp only
  refine hF.out _ _ trivial (fun _ => ?_)
  clear hF F
  refine wpAnyH_take (i := 13) (oi := Oper.mk (some 2) _ _ _ _ _) (v := ?_) rfl (by kernel_rfl) (by kernel_rfl) (by kernel_rfl) (fun _ _ _ h => h) (Or.inl ⟨by rfl, ?_⟩) trivial ?_
  rotate_left
  · intro w hSw
    go_simp
    try with_reducible rfl
  simp only [Act.put, List.setIfInBounds_toArray, List.set_cons_zero, List.set_cons_succ]
  try dsimp only
  refine wpAnyH_done (by kernel_rfl) ?_ _
  go_wp2
  go_ret
  exact ⟨_, rfl, hO, hbn⟩
set_option maxRecDepth 100000 in
set_option maxHeartbeats 1000000 in
theorem messageFields_no (k : Int) (h : ¬ (1 ≤ k ∧ k ≤ 11)) (g : Nat) (w : World) (c0 : w.cell? ⟨g, 0, none⟩ = some (.int .i64 k)) :
    Calls Try.prog 22 #[.pointer (some ⟨g, 0, none⟩)] w fun e w' => ∃ v, e = .returned v ∧ Own3 mv okS g w.heap.size w' v [] ∧ Below w.heap.size w w' := by
  have t1 : (k == (1 : Int)) = false := beq_eq_false_iff_ne.2 (by omega)
  have t2 : (k == (2 : Int)) = false := beq_eq_false_iff_ne.2 (by omega)
  have t3 : (k == (3 : Int)) = false := beq_eq_false_iff_ne.2 (by omega)
  have t4 : (k == (4 : Int)) = false := beq_eq_false_iff_ne.2 (by omega)
  have t5 : (k == (5 : Int)) = false := beq_eq_false_iff_ne.2 (by omega)
  have t6 : (k == (6 : Int)) = false := beq_eq_false_iff_ne.2 (by omega)
  have t7 : (k == (7 : Int)) = false := beq_eq_false_iff_ne.2 (by omega)
  have t8 : (k == (8 : Int)) = false := beq_eq_false_iff_ne.2 (by omega)
  have t9 : (k == (9 : Int)) = false := beq_eq_false_iff_ne.2 (by omega)
  have t10 : (k == (10 : Int)) = false := beq_eq_false_iff_ne.2 (by omega)
  have t11 : (k == (11 : Int)) = false := beq_eq_false_iff_ne.2 (by omega)
  clear h
  go_enter Try.func22, Try.ntmps22
  go_wp2
  go_ret
  exact ⟨_, rfl, Own3.nil _ _, Below.refl _ _⟩
set_option maxRecDepth 100000 in
set_option maxHeartbeats 1000000 in
theorem replyFields_no (k : Int) (h : ¬ (129 ≤ k ∧ k ≤ 136)) (g : Nat) (w : World) (c0 : w.cell? ⟨g, 0, none⟩ = some (.int .i64 k)) :
    Calls Try.prog 31 #[.pointer (some ⟨g, 0, none⟩)] w fun e w' => ∃ v, e = .returned v ∧ Own3 rv okT g w.heap.size w' v [] ∧ Below w.heap.size w w' := by
  have t129 : (k == (129 : Int)) = false := beq_eq_false_iff_ne.2 (by omega)
  have t130 : (k == (130 : Int)) = false := beq_eq_false_iff_ne.2 (by omega)
  have t131 : (k == (131 : Int)) = false := beq_eq_false_iff_ne.2 (by omega)
  have t132 : (k == (132 : Int)) = false := beq_eq_false_iff_ne.2 (by omega)
  have t133 : (k == (133 : Int)) = false := beq_eq_false_iff_ne.2 (by omega)
  have t134 : (k == (134 : Int)) = false := beq_eq_false_iff_ne.2 (by omega)
  have t135 : (k == (135 : Int)) = false := beq_eq_false_iff_ne.2 (by omega)
  have t136 : (k == (136 : Int)) = false := beq_eq_false_iff_ne.2 (by omega)
  clear h
  go_enter Try.func31, Try.ntmps31
  go_wp2
  go_ret
  exact ⟨_, rfl, Own3.nil _ _, Below.refl _ _⟩
/-- the fields of a message -/
theorem fields_msg (x : M) (g : Nat) (w : World) (hA : Arr w g (mv x)) :
    Calls Try.prog 22 #[.pointer (some ⟨g, 0, none⟩)] w fun e w' => ∃ v, e = .returned v ∧ Own3 mv okS g w.heap.size w' v (fdM x.kind) ∧ Below w.heap.size w w' := by
  have hg := hA.lt
  have c0 : w.cell? ⟨g, 0, none⟩ = some (.int .i64 x.kind) := hA.cell rfl
  generalize x.kind = k at c0 ⊢
  by_cases h : 1 ≤ k ∧ k ≤ 11
  · rcases kinds_M h with rfl | rfl | rfl | rfl | rfl | rfl | rfl | rfl | rfl | rfl | rfl
    · exact messageFields_1 g w c0 hg
    · exact messageFields_2 g w c0 hg
    · exact messageFields_3 g w c0 hg
    · exact messageFields_4 g w c0 hg
    · exact messageFields_5 g w c0 hg
    · exact messageFields_6 g w c0 hg
    · exact messageFields_7 g w c0 hg
    · exact messageFields_8 g w c0 hg
    · exact messageFields_9 g w c0 hg
    · exact messageFields_10 g w c0 hg
    · exact messageFields_11 g w c0 hg
  · have e : fdM k = [] := by
      cases hf : fdM k with
      | nil => rfl
      | cons d ds => exact absurd (fdM_none (by rw [hf]; simp)) h
    rw [e]
    exact messageFields_no k h g w c0
/-- the fields of a reply -/
theorem fields_reply (x : R) (g : Nat) (w : World) (hA : Arr w g (rv x)) :
    Calls Try.prog 31 #[.pointer (some ⟨g, 0, none⟩)] w fun e w' => ∃ v, e = .returned v ∧ Own3 rv okT g w.heap.size w' v (fdR x.kind) ∧ Below w.heap.size w w' := by
  have hg := hA.lt
  have c0 : w.cell? ⟨g, 0, none⟩ = some (.int .i64 x.kind) := hA.cell rfl
  generalize x.kind = k at c0 ⊢
  by_cases h : 129 ≤ k ∧ k ≤ 136
  · rcases kinds_R h with rfl | rfl | rfl | rfl | rfl | rfl | rfl | rfl
    · exact replyFields_129 g w c0 hg
    · exact replyFields_130 g w c0 hg
    · exact replyFields_131 g w c0 hg
    · exact replyFields_132 g w c0 hg
    · exact replyFields_133 g w c0 hg
    · exact replyFields_134 g w c0 hg
    · exact replyFields_135 g w c0 hg
    · exact replyFields_136 g w c0 hg
  · have e : fdR k = [] := by
      cases hf : fdR k with
      | nil => rfl
      | cons d ds => exact absurd (fdR_none (by rw [hf]; simp)) h
    rw [e]
    exact replyFields_no k h g w c0
end Go.Proofs.Ytmibgmcgicphoaa.msg
