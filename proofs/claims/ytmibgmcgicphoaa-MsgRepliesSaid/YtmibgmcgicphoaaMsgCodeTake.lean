/-
  THE CONTRACTS OF msg's first, Take, TakeReply. (Written by program: wip/tools/gen_msg_proof.py.)
-/
import Derived.Test.YtmibgmcgicphoaaMsgSplit
import Derived.Test.YtmibgmcgicphoaaMsgFdM
import Derived.Test.YtmibgmcgicphoaaStructEq
namespace Go.Proofs.Ytmibgmcgicphoaa.msg
open Go.RowKit Go.Proofs.Ytmibgmcgicphoaa.octets Go.Proofs.Ytmibgmcgicphoaa.pack
set_option linter.unusedVariables false
set_option linter.unusedSimpArgs false

/-- two results, the first one a struct in a variable -/
theorem ret_struct_tmp {P : Program} {fn : Func} {R : Ending → World → Prop} {a : Act} {w : World} {p u : Tmp} {ty : TypeId} (h : fn.results = #[.cell p ty, .tmp u]) (g : Nat) (cs : List Value) (d : TypeDesc) (hp : a.tmps.getD p undef = .pointer (some ⟨g, 0, none⟩)) (hA : Arr w g cs)
    (hu : P.underlying ty = some d) (hd : d.isRow = true) (hi : (P.info? ty).map (·.size) = some cs.length) (hdf : a.defers = []) (hR : R (.returned (.tuple #[.agg cs.toArray, a.tmps.getD u undef])) w) : bodyPost P fn R .ret a w := by
  refine bodyPost_ret ?_ hdf hR
  rw [results_cell_tmp h, hp]
  have := run_loadVar_mid (P := P) w g 0 ty cs d hA.range hu hd hi
  simp [asAddr, Result.andThen, this]
set_option maxHeartbeats 400000 in
theorem first_ok (A : Option Addr) (n c : Nat) (l : List UInt8) (w : World) (hl : l.length = n) (hs : Seen w A l) :
    Calls Try.prog 27 #[.slice A n c] w fun e w' => e = .returned (.int .i64 (firstL l)) ∧ w = w' := by
  by_cases h0 : n = 0
  · subst h0
    have e : l = [] := List.eq_nil_of_length_eq_zero hl
    subst e
    go_enter Try.func27, Try.ntmps27
    go_wp2
    go_ret
    exact ⟨rfl, rfl⟩
  · obtain ⟨b, o, rfl, hb, hc⟩ := hs.at_ (k := 0) (by omega)
    have c0 := hc 0 (by omega)
    have hf : firstL l = ((l[0]'(by omega)).toNat : Int) := by
      unfold firstL atB
      rw [List.getD_eq_getElem?_getD, List.getElem?_eq_getElem (by omega)]
      rfl
    rw [hf]
    have hlt := UInt8.toNat_lt (l[0]'(by omega))
    generalize (l[0]'(by omega)).toNat = x at c0 hlt ⊢
    rw [Nat.add_zero] at c0
    have t1 : ((n : Int) == 0) = false := beq_eq_false_iff_ne.2 (by omega)
    have ew : IntKind.i64.wrap (x : Int) = (x : Int) := by rw [IntKind.wrap_i64]; omega
    have hpos : 0 < n := by omega
    clear hf hs hc hl h0
    go_enter Try.func27, Try.ntmps27
    go_wp2
    go_ret
    exact ⟨rfl, rfl⟩
set_option maxHeartbeats 400000 in
theorem split_nil (A A' : Option Addr) (m c d : Nat) (w : World) : Calls Try.prog 28 #[.slice A m c, .slice A' 0 d] w fun e w' => e = .returned (.bool false) ∧ w = w' := by
  go_enter Try.func28, Try.ntmps28
  go_wp2
  refine wp_loop_rounds 1 ?_
  rw [rounds_succ]
  go_wp2
  go_ret
  exact ⟨rfl, rfl⟩
theorem fdM_pos (k : Int) : (fdM k).length ≤ 8 ∧ ∀ d ∈ fdM k, 0 < d.size := by
  unfold fdM
  repeat' split
  all_goals
    refine ⟨by simp, fun d hd => ?_⟩
    simp only [List.mem_cons, List.mem_append, List.not_mem_nil, or_false, or_assoc] at hd
    all_goals first
      | (rcases hd with rfl | rfl <;> decide)
      | (rcases hd with rfl | rfl | rfl <;> decide)
      | (rcases hd with rfl | rfl | rfl | rfl <;> decide)
      | (rcases hd with rfl | rfl | rfl | rfl | rfl | rfl | rfl | rfl <;> decide)
      | exact absurd hd (by simp)
theorem fdR_pos (k : Int) : (fdR k).length ≤ 8 ∧ ∀ d ∈ fdR k, 0 < d.size := by
  unfold fdR
  repeat' split
  all_goals
    refine ⟨by simp, fun d hd => ?_⟩
    simp only [List.mem_cons, List.mem_append, List.not_mem_nil, or_false, or_assoc] at hd
    all_goals first
      | (rcases hd with rfl | rfl <;> decide)
      | (rcases hd with rfl | rfl | rfl <;> decide)
      | (rcases hd with rfl | rfl | rfl | rfl <;> decide)
      | exact absurd hd (by simp)
set_option maxRecDepth 100000 in
set_option maxHeartbeats 2000000 in
theorem codeTake_ok (A : Option Addr) (n c : Nat) (l : List UInt8) (w : World) (hl : l.length = n) (hc : n ≤ c) (hn : n ≤ 1048576) (hs : Seen w A l) :
    Calls Try.prog 13 #[.slice A n c] w fun e w' => e = .returned (.tuple #[.agg (mv (gotM l)).toArray, .int .i64 (codeT l)]) ∧ Below w.heap.size w w' := by
  have htf := take_fields l
  have hA0 := Arr.new_at w (mv zM) #[.int .i64 0, .int .i64 0, .int .i64 0, .int .i64 0, .int .i64 0, .int .i64 0, .int .i64 0, .bool false, .int .i64 0, .int .i64 0, .int .i64 0, .int .i64 0] 24 rfl
  have hw1 : Below w.heap.size w (w.alloc (.cells #[.int .i64 0, .int .i64 0, .int .i64 0, .int .i64 0, .int .i64 0, .int .i64 0, .int .i64 0, .bool false, .int .i64 0, .int .i64 0, .int .i64 0, .int .i64 0] 24)) := (Below.refl _ _).alloc (Nat.le_refl _) _
  have hs1 := hs.since hw1
  have hA1 := Arr.new_at (w.alloc (.cells #[.int .i64 0, .int .i64 0, .int .i64 0, .int .i64 0, .int .i64 0, .int .i64 0, .int .i64 0, .bool false, .int .i64 0, .int .i64 0, .int .i64 0, .int .i64 0] 24)) (mv { zM with kind := firstL l }) #[.int .i64 (firstL l), .int .i64 0, .int .i64 0, .int .i64 0, .int .i64 0, .int .i64 0, .int .i64 0, .bool false, .int .i64 0, .int .i64 0, .int .i64 0, .int .i64 0] 24 rfl
  have hw2' : Below (w.alloc (.cells #[.int .i64 0, .int .i64 0, .int .i64 0, .int .i64 0, .int .i64 0, .int .i64 0, .int .i64 0, .bool false, .int .i64 0, .int .i64 0, .int .i64 0, .int .i64 0] 24)).heap.size (w.alloc (.cells #[.int .i64 0, .int .i64 0, .int .i64 0, .int .i64 0, .int .i64 0, .int .i64 0, .int .i64 0, .bool false, .int .i64 0, .int .i64 0, .int .i64 0, .int .i64 0] 24)) ((w.alloc (.cells #[.int .i64 0, .int .i64 0, .int .i64 0, .int .i64 0, .int .i64 0, .int .i64 0, .int .i64 0, .bool false, .int .i64 0, .int .i64 0, .int .i64 0, .int .i64 0] 24)).alloc (.cells #[.int .i64 (firstL l), .int .i64 0, .int .i64 0, .int .i64 0, .int .i64 0, .int .i64 0, .int .i64 0, .bool false, .int .i64 0, .int .i64 0, .int .i64 0, .int .i64 0] 24)) := (Below.refl _ _).alloc (Nat.le_refl _) _
  have hw2 := hw1.trans (hw2'.mono hw1.size)
  have hR2 := hA0.since hw2'
  have hs2 := hs1.since hw2'
  have hg : (w.alloc (.cells #[.int .i64 0, .int .i64 0, .int .i64 0, .int .i64 0, .int .i64 0, .int .i64 0, .int .i64 0, .bool false, .int .i64 0, .int .i64 0, .int .i64 0, .int .i64 0] 24)).heap.size = w.heap.size + 1 := by simp
  rw [hg] at hA1
  have hz2 : ((w.alloc (.cells #[.int .i64 0, .int .i64 0, .int .i64 0, .int .i64 0, .int .i64 0, .int .i64 0, .int .i64 0, .bool false, .int .i64 0, .int .i64 0, .int .i64 0, .int .i64 0] 24)).alloc (.cells #[.int .i64 (firstL l), .int .i64 0, .int .i64 0, .int .i64 0, .int .i64 0, .int .i64 0, .int .i64 0, .bool false, .int .i64 0, .int .i64 0, .int .i64 0, .int .i64 0] 24)).heap.size = w.heap.size + 1 + 1 := by simp
  have hfirst := Lib.hid (first_ok A n c l _ hl hs1)
  have hfl := Lib.hid (fields_msg { zM with kind := firstL l } (w.heap.size + 1) _ hA1)
  have hpos := Lib.hid (fdM_pos (firstL l))
  have hnil : l = [] → fdM (firstL l) = [] := fun e => by rw [e]; rfl
  have hAg : l ≠ [] → ∀ a, A = some a → a.block ≠ w.heap.size + 1 := fun hne a ha => by
    obtain ⟨b, o, e, hb, _⟩ := hs hne
    rw [e] at ha
    cases ha
    show b ≠ _
    omega
  clear hs hs1 hA0 hw1 hw2' hg
  replace hl := Lib.hid hl
  go_enter Try.func13, Try.ntmps13
  go_wp2_with fail
  (with_reducible refine hfirst.out.mono ?_)
  rintro e w' ⟨rfl, rfl⟩
  clear hfirst
  go_wp2_with fail
  (with_reducible refine hfl.out.mono ?_)
  rintro e w3 ⟨v3, rfl, hO, hb3⟩
  clear hfl
  generalize (w.alloc (.cells #[.int .i64 0, .int .i64 0, .int .i64 0, .int .i64 0, .int .i64 0, .int .i64 0, .int .i64 0, .bool false, .int .i64 0, .int .i64 0, .int .i64 0, .int .i64 0] 24)).alloc (.cells #[.int .i64 (firstL l), .int .i64 0, .int .i64 0, .int .i64 0, .int .i64 0, .int .i64 0, .int .i64 0, .bool false, .int .i64 0, .int .i64 0, .int .i64 0, .int .i64 0] 24) = W2 at hA1 hw2 hR2 hs2 hz2 hO hb3
  generalize firstL l = k at hA1 hpos hnil htf hO
  have hA3 := hA1.since hb3
  have hR3 := hR2.since hb3
  have hs3 := hs2.since hb3
  have hw3 := hw2.trans (hb3.mono hw2.size)
  have hlt := fun x e => hO.lt (k := x) e
  obtain ⟨A3, c3, rfl, hc3, ha3, hS3⟩ := hO.src
  have hA3g : ∀ a, A3 = some a → a.block ≠ w.heap.size + 1 := fun a e => by have := (hlt _ (ha3 a e)).1; omega
  replace hS3 : Src3 mv okS (w.heap.size + 1) W2.heap.size w3 none A3 (fdM k) := by
    obtain ⟨us, g1, g2⟩ := hS3
    exact ⟨us, g1, g2.mono fun b _ hb => ⟨hb.1, by simp⟩⟩
  clear hA1 hR2 hs2 hw2 hb3 hO hlt ha3 hc3
  by_cases h0 : fdM k = []
  · rw [if_pos h0] at htf
    have e1 : Unit → codeT l = 13 := fun _ => by unfold codeT; rw [htf]; rfl
    have e2 : Unit → gotM l = zM := fun _ => by unfold gotM; rw [htf]; rfl
    rw [h0]
    clear htf hS3 hpos hA3g hA3
    go_wp2_with fail
    (with_reducible refine (split_nil A A3 n c c3 _).mono ?_)
    rintro e w' ⟨rfl, rfl⟩
    go_wp2_with (guard_target =~ wpList _ _ _ (Oper.mk _ (Op.store 24 _ _) _ _ _ _ :: _) _ _; refine wpList_store_arr (cs' := mv zM) 12 rfl rfl rfl rfl hR3 (by kernel_rfl) rfl rfl (mv_one _) ?_)
    intro w5 hR5 ho5 hb5 hs5
    have hw5 := hw3.trans hb5
    go_wp2
    exact ret_struct_tmp rfl w.heap.size _ _ rfl hR5 Try.underlying24 rfl (by kernel_rfl) rfl ⟨by rw [e1 (), e2 ()]; rfl, hw5⟩
  · rw [if_neg h0] at htf
    have hne : l ≠ [] := fun e => h0 (hnil e)
    obtain ⟨m, hm⟩ : ∃ m, (fdM k).length = m := ⟨_, rfl⟩
    have hsp := Lib.hid (split_ok (fdM k) { zM with kind := k } trivial W2.heap.size m c n c3 A A3 l w3 hm (by have := hpos.out.1; omega) h0 hA3g (by omega) hS3 hA3 ⟨hs3, hAg hne⟩ hl.out hc hn hpos.out.2)
    rw [hm]
    replace hm := Lib.hid hm
    clear hpos hnil hAg hA3g hS3 hA3 hs3
    replace htf := Lib.hid htf
    go_wp2_with fail
    (with_reducible refine hsp.out.mono ?_)
    rintro e w4 ⟨ok, rfl, hgr, hres⟩
    clear hsp
    rw [← htf.out] at hres
    have hR4 := hR3.of_block (hgr.block w.heap.size hR3.lt (by simp))
    have hw4 : Below w.heap.size w w4 := hw3.grown hgr hw3.size fun x e => by cases e; omega
    clear hR3 hgr hw3 htf
    cases hr : takeM l with
    | none =>
      rw [hr] at hres
      obtain rfl : ok = false := hres
      have e1 : Unit → codeT l = 13 := fun _ => by unfold codeT; rw [hr]; rfl
      have e2 : Unit → gotM l = zM := fun _ => by unfold gotM; rw [hr]; rfl
      clear hr
      go_wp2_with (guard_target =~ wpList _ _ _ (Oper.mk _ (Op.store 24 _ _) _ _ _ _ :: _) _ _; refine wpList_store_arr (cs' := mv zM) 12 rfl rfl rfl rfl hR4 (by kernel_rfl) rfl rfl (mv_one _) ?_)
      intro w5 hR5 ho5 hb5 hs5
      have hw5 := hw4.trans hb5
      go_wp2
      exact ret_struct_tmp rfl w.heap.size _ _ rfl hR5 Try.underlying24 rfl (by kernel_rfl) rfl ⟨by rw [e1 (), e2 ()]; rfl, hw5⟩
    | some s =>
      rw [hr] at hres
      obtain ⟨rfl, hgs, hA4⟩ := hres
      have e1 : Unit → codeT l = 0 := fun _ => by unfold codeT; rw [hr]; rfl
      have e2 : Unit → gotM l = s := fun _ => by unfold gotM; rw [hr]; rfl
      have hls : (mv s).length = 12 := rfl
      replace hls := Lib.hid hls
      clear hr
      go_wp2_with (first
        | (guard_target =~ wpList _ _ _ (Oper.mk _ (Op.load 24 _) _ _ _ _ :: _) _ _; refine wpList_load_arr 12 rfl rfl rfl hA4 (by kernel_rfl) hls.out ?_)
        | (guard_target =~ wpList _ _ _ (Oper.mk _ (Op.store 24 _ _) _ _ _ _ :: _) _ _; refine wpList_store_arr (cs' := mv s) 12 rfl rfl rfl rfl hR4 (by kernel_rfl) rfl hls.out (mv_one _) ?_))
      intro w5 hR5 ho5 hb5 hs5
      have hw5 := hw4.trans hb5
      go_wp2
      exact ret_struct_tmp rfl w.heap.size _ _ rfl hR5 Try.underlying24 rfl (by rw [hls.out]; kernel_rfl) rfl ⟨by rw [e1 (), e2 ()]; rfl, hw5⟩
set_option maxRecDepth 100000 in
set_option maxHeartbeats 2000000 in
theorem codeTakeReply_ok (A : Option Addr) (n c : Nat) (l : List UInt8) (w : World) (hl : l.length = n) (hc : n ≤ c) (hn : n ≤ 1048576) (hs : Seen w A l) :
    Calls Try.prog 17 #[.slice A n c] w fun e w' => e = .returned (.tuple #[.agg (rv (gotR l)).toArray, .int .i64 (codeTR l)]) ∧ Below w.heap.size w w' := by
  have htf := takeR_fields l
  have hA0 := Arr.new_at w (rv zR) #[.int .i64 0, .int .i64 0, .int .i64 0, .int .i64 0, .int .i64 0, .int .i64 0, .int .u8 0, .int .u8 0, .int .u8 0, .int .u8 0, .int .u8 0, .int .u8 0, .int .u8 0, .int .u8 0] 28 rfl
  have hw1 : Below w.heap.size w (w.alloc (.cells #[.int .i64 0, .int .i64 0, .int .i64 0, .int .i64 0, .int .i64 0, .int .i64 0, .int .u8 0, .int .u8 0, .int .u8 0, .int .u8 0, .int .u8 0, .int .u8 0, .int .u8 0, .int .u8 0] 28)) := (Below.refl _ _).alloc (Nat.le_refl _) _
  have hs1 := hs.since hw1
  have hA1 := Arr.new_at (w.alloc (.cells #[.int .i64 0, .int .i64 0, .int .i64 0, .int .i64 0, .int .i64 0, .int .i64 0, .int .u8 0, .int .u8 0, .int .u8 0, .int .u8 0, .int .u8 0, .int .u8 0, .int .u8 0, .int .u8 0] 28)) (rv { zR with kind := firstL l }) #[.int .i64 (firstL l), .int .i64 0, .int .i64 0, .int .i64 0, .int .i64 0, .int .i64 0, .int .u8 0, .int .u8 0, .int .u8 0, .int .u8 0, .int .u8 0, .int .u8 0, .int .u8 0, .int .u8 0] 28 rfl
  have hw2' : Below (w.alloc (.cells #[.int .i64 0, .int .i64 0, .int .i64 0, .int .i64 0, .int .i64 0, .int .i64 0, .int .u8 0, .int .u8 0, .int .u8 0, .int .u8 0, .int .u8 0, .int .u8 0, .int .u8 0, .int .u8 0] 28)).heap.size (w.alloc (.cells #[.int .i64 0, .int .i64 0, .int .i64 0, .int .i64 0, .int .i64 0, .int .i64 0, .int .u8 0, .int .u8 0, .int .u8 0, .int .u8 0, .int .u8 0, .int .u8 0, .int .u8 0, .int .u8 0] 28)) ((w.alloc (.cells #[.int .i64 0, .int .i64 0, .int .i64 0, .int .i64 0, .int .i64 0, .int .i64 0, .int .u8 0, .int .u8 0, .int .u8 0, .int .u8 0, .int .u8 0, .int .u8 0, .int .u8 0, .int .u8 0] 28)).alloc (.cells #[.int .i64 (firstL l), .int .i64 0, .int .i64 0, .int .i64 0, .int .i64 0, .int .i64 0, .int .u8 0, .int .u8 0, .int .u8 0, .int .u8 0, .int .u8 0, .int .u8 0, .int .u8 0, .int .u8 0] 28)) := (Below.refl _ _).alloc (Nat.le_refl _) _
  have hw2 := hw1.trans (hw2'.mono hw1.size)
  have hR2 := hA0.since hw2'
  have hs2 := hs1.since hw2'
  have hg : (w.alloc (.cells #[.int .i64 0, .int .i64 0, .int .i64 0, .int .i64 0, .int .i64 0, .int .i64 0, .int .u8 0, .int .u8 0, .int .u8 0, .int .u8 0, .int .u8 0, .int .u8 0, .int .u8 0, .int .u8 0] 28)).heap.size = w.heap.size + 1 := by simp
  rw [hg] at hA1
  have hz2 : ((w.alloc (.cells #[.int .i64 0, .int .i64 0, .int .i64 0, .int .i64 0, .int .i64 0, .int .i64 0, .int .u8 0, .int .u8 0, .int .u8 0, .int .u8 0, .int .u8 0, .int .u8 0, .int .u8 0, .int .u8 0] 28)).alloc (.cells #[.int .i64 (firstL l), .int .i64 0, .int .i64 0, .int .i64 0, .int .i64 0, .int .i64 0, .int .u8 0, .int .u8 0, .int .u8 0, .int .u8 0, .int .u8 0, .int .u8 0, .int .u8 0, .int .u8 0] 28)).heap.size = w.heap.size + 1 + 1 := by simp
  have hfirst := Lib.hid (first_ok A n c l _ hl hs1)
  have hfl := Lib.hid (fields_reply { zR with kind := firstL l } (w.heap.size + 1) _ hA1)
  have hpos := Lib.hid (fdR_pos (firstL l))
  have hnil : l = [] → fdR (firstL l) = [] := fun e => by rw [e]; rfl
  have hAg : l ≠ [] → ∀ a, A = some a → a.block ≠ w.heap.size + 1 := fun hne a ha => by
    obtain ⟨b, o, e, hb, _⟩ := hs hne
    rw [e] at ha
    cases ha
    show b ≠ _
    omega
  clear hs hs1 hA0 hw1 hw2' hg
  replace hl := Lib.hid hl
  go_enter Try.func17, Try.ntmps17
  go_wp2_with fail
  (with_reducible refine hfirst.out.mono ?_)
  rintro e w' ⟨rfl, rfl⟩
  clear hfirst
  go_wp2_with fail
  (with_reducible refine hfl.out.mono ?_)
  rintro e w3 ⟨v3, rfl, hO, hb3⟩
  clear hfl
  generalize (w.alloc (.cells #[.int .i64 0, .int .i64 0, .int .i64 0, .int .i64 0, .int .i64 0, .int .i64 0, .int .u8 0, .int .u8 0, .int .u8 0, .int .u8 0, .int .u8 0, .int .u8 0, .int .u8 0, .int .u8 0] 28)).alloc (.cells #[.int .i64 (firstL l), .int .i64 0, .int .i64 0, .int .i64 0, .int .i64 0, .int .i64 0, .int .u8 0, .int .u8 0, .int .u8 0, .int .u8 0, .int .u8 0, .int .u8 0, .int .u8 0, .int .u8 0] 28) = W2 at hA1 hw2 hR2 hs2 hz2 hO hb3
  generalize firstL l = k at hA1 hpos hnil htf hO
  have hA3 := hA1.since hb3
  have hR3 := hR2.since hb3
  have hs3 := hs2.since hb3
  have hw3 := hw2.trans (hb3.mono hw2.size)
  have hlt := fun x e => hO.lt (k := x) e
  obtain ⟨A3, c3, rfl, hc3, ha3, hS3⟩ := hO.src
  have hA3g : ∀ a, A3 = some a → a.block ≠ w.heap.size + 1 := fun a e => by have := (hlt _ (ha3 a e)).1; omega
  replace hS3 : Src3 rv okT (w.heap.size + 1) W2.heap.size w3 none A3 (fdR k) := by
    obtain ⟨us, g1, g2⟩ := hS3
    exact ⟨us, g1, g2.mono fun b _ hb => ⟨hb.1, by simp⟩⟩
  clear hA1 hR2 hs2 hw2 hb3 hO hlt ha3 hc3
  by_cases h0 : fdR k = []
  · rw [if_pos h0] at htf
    have e1 : Unit → codeTR l = 13 := fun _ => by unfold codeTR; rw [htf]; rfl
    have e2 : Unit → gotR l = zR := fun _ => by unfold gotR; rw [htf]; rfl
    rw [h0]
    clear htf hS3 hpos hA3g hA3
    go_wp2_with fail
    (with_reducible refine (split_nil A A3 n c c3 _).mono ?_)
    rintro e w' ⟨rfl, rfl⟩
    go_wp2_with (guard_target =~ wpList _ _ _ (Oper.mk _ (Op.store 28 _ _) _ _ _ _ :: _) _ _; refine wpList_store_arr (cs' := rv zR) 14 rfl rfl rfl rfl hR3 (by kernel_rfl) rfl rfl (rv_one _) ?_)
    intro w5 hR5 ho5 hb5 hs5
    have hw5 := hw3.trans hb5
    go_wp2
    exact ret_struct_tmp rfl w.heap.size _ _ rfl hR5 Try.underlying28 rfl (by kernel_rfl) rfl ⟨by rw [e1 (), e2 ()]; rfl, hw5⟩
  · rw [if_neg h0] at htf
    have hne : l ≠ [] := fun e => h0 (hnil e)
    obtain ⟨m, hm⟩ : ∃ m, (fdR k).length = m := ⟨_, rfl⟩
    have hsp := Lib.hid (split_ok (fdR k) { zR with kind := k } (rfl : z8.length = 8) W2.heap.size m c n c3 A A3 l w3 hm (by have := hpos.out.1; omega) h0 hA3g (by omega) hS3 hA3 ⟨hs3, hAg hne⟩ hl.out hc hn hpos.out.2)
    rw [hm]
    replace hm := Lib.hid hm
    clear hpos hnil hAg hA3g hS3 hA3 hs3
    replace htf := Lib.hid htf
    go_wp2_with fail
    (with_reducible refine hsp.out.mono ?_)
    rintro e w4 ⟨ok, rfl, hgr, hres⟩
    clear hsp
    rw [← htf.out] at hres
    have hR4 := hR3.of_block (hgr.block w.heap.size hR3.lt (by simp))
    have hw4 : Below w.heap.size w w4 := hw3.grown hgr hw3.size fun x e => by cases e; omega
    clear hR3 hgr hw3 htf
    cases hr : takeR l with
    | none =>
      rw [hr] at hres
      obtain rfl : ok = false := hres
      have e1 : Unit → codeTR l = 13 := fun _ => by unfold codeTR; rw [hr]; rfl
      have e2 : Unit → gotR l = zR := fun _ => by unfold gotR; rw [hr]; rfl
      clear hr
      go_wp2_with (guard_target =~ wpList _ _ _ (Oper.mk _ (Op.store 28 _ _) _ _ _ _ :: _) _ _; refine wpList_store_arr (cs' := rv zR) 14 rfl rfl rfl rfl hR4 (by kernel_rfl) rfl rfl (rv_one _) ?_)
      intro w5 hR5 ho5 hb5 hs5
      have hw5 := hw4.trans hb5
      go_wp2
      exact ret_struct_tmp rfl w.heap.size _ _ rfl hR5 Try.underlying28 rfl (by kernel_rfl) rfl ⟨by rw [e1 (), e2 ()]; rfl, hw5⟩
    | some s =>
      rw [hr] at hres
      obtain ⟨rfl, hgs, hA4⟩ := hres
      have e1 : Unit → codeTR l = 0 := fun _ => by unfold codeTR; rw [hr]; rfl
      have e2 : Unit → gotR l = s := fun _ => by unfold gotR; rw [hr]; rfl
      have hls : (rv s).length = 14 := (rv_len s hgs)
      replace hls := Lib.hid hls
      clear hr
      go_wp2_with (first
        | (guard_target =~ wpList _ _ _ (Oper.mk _ (Op.load 28 _) _ _ _ _ :: _) _ _; refine wpList_load_arr 14 rfl rfl rfl hA4 (by kernel_rfl) hls.out ?_)
        | (guard_target =~ wpList _ _ _ (Oper.mk _ (Op.store 28 _ _) _ _ _ _ :: _) _ _; refine wpList_store_arr (cs' := rv s) 14 rfl rfl rfl rfl hR4 (by kernel_rfl) rfl hls.out (rv_one _) ?_))
      intro w5 hR5 ho5 hb5 hs5
      have hw5 := hw4.trans hb5
      go_wp2
      exact ret_struct_tmp rfl w.heap.size _ _ rfl hR5 Try.underlying28 rfl (by rw [hls.out]; kernel_rfl) rfl ⟨by rw [e1 (), e2 ()]; rfl, hw5⟩
end Go.Proofs.Ytmibgmcgicphoaa.msg
