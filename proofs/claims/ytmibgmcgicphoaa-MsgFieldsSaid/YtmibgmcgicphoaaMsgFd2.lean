/-
  FIELDS THAT ARE FLAGS, NUMBERS WITH A SIGN, OR EIGHT BYTES; what makes the fields of numbers by name. (Written by program: wip/tools/gen_msg_fd3.py.)
-/
import Derived.Test.YtmibgmcgicphoaaMsgFd
import Derived.Laws.CopyOwn
import Derived.StillTail
import Derived.StillTailTactics
namespace Go.Proofs.Ytmibgmcgicphoaa.msg
open Go.RowKit Go.Proofs.Ytmibgmcgicphoaa.octets Go.Proofs.Ytmibgmcgicphoaa.pack
set_option linter.unusedVariables false
set_option linter.unusedSimpArgs false

/-- cell i is the flag that get tells, and set lays -/
structure PlaceB {S : Type} (enc : S → List Value) (good : S → Prop) (i : Nat) (get : S → Bool) (set : Bool → S → S) : Prop where
  lt : ∀ s, good s → i < (enc s).length
  get : ∀ s, good s → (enc s)[i]? = some (.bool (get s))
  set : ∀ s n, good s → (enc s).set i (.bool n) = enc (set n s) ∧ good (set n s)
/-- cells i to i + 7 are the eight bytes that get tells, and set lays -/
structure PlaceN {S : Type} (enc : S → List Value) (good : S → Prop) (i : Nat) (get : S → List UInt8) (set : List UInt8 → S → S) : Prop where
  lt : ∀ s, good s → i + 8 ≤ (enc s).length
  len : ∀ s, good s → (get s).length = 8
  get : ∀ s, good s → ∀ j (h : j < (get s).length), (enc s)[i + j]? = some (.int .u8 ((get s)[j].toNat : Int))
  set : ∀ s l, good s → l.length = 8 → (enc s).take i ++ (vals l ++ (enc s).drop (i + 8)) = enc (set l s) ∧ good (set l s)

set_option maxHeartbeats 400000 in
theorem flagPut (pa g i : Nat) (n : Bool) (w : World) (ha : w.cell? ⟨pa, 0, none⟩ = some (.pointer (some ⟨g, i, none⟩))) (hc : w.cell? ⟨g, i, none⟩ = some (.bool n)) :
    Calls Try.prog 47 #[.pointer (some ⟨pa, 0, none⟩)] w fun e w' => ∃ A c, e = .returned (.slice A [if n then (1 : UInt8) else 0].length c) ∧ Seen w' A [if n then (1 : UInt8) else 0] ∧ Below w.heap.size w w' := by
  cases n with
  | true =>
    show Calls Try.prog 47 #[.pointer (some ⟨pa, 0, none⟩)] w fun e w' => ∃ A c, e = .returned (.slice A ([1] : List UInt8).length c) ∧ Seen w' A [1] ∧ Below w.heap.size w w'
    have hh := Held.lit w [1] #[.int .u8 1] (by simp [vals]) (by simp [maxLen])
    go_enter Try.func47, Try.ntmps47
    go_wp2
    go_ret
    exact ⟨_, _, rfl, hh.seen, (Below.refl _ _).alloc (Nat.le_refl _) _⟩
  | false =>
    show Calls Try.prog 47 #[.pointer (some ⟨pa, 0, none⟩)] w fun e w' => ∃ A c, e = .returned (.slice A ([0] : List UInt8).length c) ∧ Seen w' A [0] ∧ Below w.heap.size w w'
    have hh := Held.lit w [0] #[.int .u8 0] (by simp [vals]) (by simp [maxLen])
    go_enter Try.func47, Try.ntmps47
    go_wp2
    go_ret
    exact ⟨_, _, rfl, hh.seen, (Below.refl _ _).alloc (Nat.le_refl _) _⟩
set_option maxRecDepth 100000 in
set_option maxHeartbeats 1000000 in
theorem flagTake (pa g i : Nat) (A : Option Addr) (c : Nat) (l : List UInt8) (cs : List Value) (w : World) (hl : l.length = 1) (hse : Seen w A l) (hA : ∀ a, A = some a → a.block ≠ g) (ha : w.cell? ⟨pa, 0, none⟩ = some (.pointer (some ⟨g, i, none⟩)))
    (hg : Arr w g cs) (hi : i < cs.length) :
    Calls Try.prog 48 #[.slice A 1 c, .pointer (some ⟨pa, 0, none⟩)] w fun e w' => e = .returned (.bool (decide ((l.getD 0 0).toNat ≤ 1))) ∧ Arr w' g (cs.set i (.bool ((l.getD 0 0).toNat == 1))) ∧ w.grownBy w' (some g) := by
  obtain ⟨x, hx⟩ : ∃ x, (l.getD 0 0).toNat = x := ⟨_, rfl⟩
  obtain ⟨b, o, rfl, hb, hcell⟩ := hse.at_ (k := 0) (by omega)
  have hbg := hA _ rfl
  have c0 := hcell 0 (by omega)
  rw [show (l[0]'(by omega)).toNat = x by rw [← hx, List.getD_eq_getElem?_getD, List.getElem?_eq_getElem (by omega)]; rfl, Nat.add_zero] at c0
  rw [hx]
  obtain ⟨v, hv⟩ : ∃ v, ((x : Int) == 1) = v := ⟨_, rfl⟩
  have hv' : (x == 1) = v := by rw [← hv, Bool.eq_iff_iff, beq_iff_eq, beq_iff_eq]; omega
  rw [hv']
  obtain ⟨u, hu⟩ : ∃ u, decide ((x : Int) ≤ 1) = u := ⟨_, rfl⟩
  have hu' : decide (x ≤ 1) = u := by rw [← hu]; congr 1; simp; omega
  rw [hu']
  obtain ⟨old, cg⟩ : ∃ v, w.cell? ⟨g, i, none⟩ = some v := ⟨_, hg.cell (List.getElem?_eq_getElem hi)⟩
  have fg := hg.frozen i
  have hA2 := hg.drew.set i (.bool v)
  have hgr := grown_drewN (grown_set w ⟨g, i, none⟩ (.bool v)) 1
  have c1 : (w.drew.setCell ⟨g, i, none⟩ (.bool v)).cell? ⟨b, o, none⟩ = some (.int .u8 (x : Int)) := (World.cell?_of_block (Below.heap_setCell w.drew ⟨g, i, none⟩ _ b hbg)).trans c0
  clear hA hse hcell hg hi hx hl hv' hu'
  go_enter Try.func48, Try.ntmps48
  go_wp2_with fail
  go_still_tail 6, (by kernel_rfl)
  change wpList _ _ _ _ _ w.drew
  go_wp2
  go_ret
  exact ⟨rfl, hA2, hgr⟩
set_option maxRecDepth 100000 in
set_option maxHeartbeats 1000000 in
theorem flag_fd {S : Type} {enc : S → List Value} {good : S → Prop} {i : Nat} {get : S → Bool} {set : Bool → S → S} (hp : PlaceB enc good i get set) (g : Nat) (w : World) (hg : g < w.heap.size) :
    Calls Try.prog 37 #[.pointer (some ⟨g, i, none⟩)] w (Makes enc good g w (flagD get set)) := by
  have hmf := mk_run
  have A0 := (Arr.new w [.pointer (some ⟨g, i, none⟩)] 70).cell (i := 0) rfl
  have hb : Below w.heap.size w (w.alloc (.cells #[.pointer (some ⟨g, i, none⟩)] 70)) := (Below.refl _ _).alloc (Nat.le_refl _) _
  go_enter Try.func37, Try.ntmps37
  go_wp2
  have hz : (w.alloc (.cells #[.pointer (some ⟨g, i, none⟩)] 70)).heap.size = w.heap.size + 1 := by simp
  refine makes_end _ rfl hz rfl rfl ?_ hb
  refine ⟨_, _, _, _, rfl, enters_of Try.func47 (by kernel_rfl) rfl, enters_of Try.func48 (by kernel_rfl) rfl, fun W' s hw hs hA => ?_, fun W' s A c l hw hs hA hl hse hne => ?_⟩
  · exact flagPut _ g i (get s) W' (hw.cell A0 (Nat.le_refl _)) (hA.cell (hp.get s hs))
  · refine (flagTake _ g i A c l (enc s) W' hl hse hne (hw.cell A0 (Nat.le_refl _)) hA (hp.lt s hs)).mono ?_
    rintro e w' ⟨rfl, h1, h2⟩
    rw [(hp.set s _ hs).1] at h1
    exact ⟨rfl, (hp.set s _ hs).2, h1, h2⟩

set_option maxHeartbeats 400000 in
theorem takeInt_seen (A : Option Addr) (c : Nat) (l : List UInt8) (w : World) (hl : l.length = 2) (hr : Seen w A l) :
    Calls Try.prog 60 #[.slice A 2 c] w fun e w' => e = .returned (.tuple #[.int .i64 (signed (num l)), .int .i64 0]) ∧ w = w' := by
  obtain ⟨x, hx⟩ : ∃ x, num l = x := ⟨_, rfl⟩
  have hlt : x < 65536 := by have := num_lt l; rw [hl] at this; omega
  have Hs := Lib.hid (take_seen_at A c 2 x l w hl (by decide) hr hx)
  rw [hx]
  clear hx hl hr
  by_cases h : 32767 < x
  · have t3 : decide ((32767 : Int) < (x : Int)) = true := decide_eq_true (by omega)
    have e : signed x = (x : Int) - 65536 := by unfold signed; rw [if_pos h]
    rw [e]
    clear e
    go_enter Try.func60, Try.ntmps60
    go_wp2_with fail
    (with_reducible refine Hs.out.mono ?_)
    rintro e w' ⟨rfl, rfl⟩
    go_wp2
    go_ret2
    exact ⟨rfl, rfl⟩
  · have t3 : decide ((32767 : Int) < (x : Int)) = false := decide_eq_false (by omega)
    have e : signed x = (x : Int) := by unfold signed; rw [if_neg h]
    rw [e]
    clear e
    go_enter Try.func60, Try.ntmps60
    go_wp2_with fail
    (with_reducible refine Hs.out.mono ?_)
    rintro e w' ⟨rfl, rfl⟩
    go_wp2
    go_ret2
    exact ⟨rfl, rfl⟩
set_option maxHeartbeats 400000 in
theorem axisPut (pa g i : Nat) (n : Int) (w : World) (ha : w.cell? ⟨pa, 0, none⟩ = some (.pointer (some ⟨g, i, none⟩))) (hc : w.cell? ⟨g, i, none⟩ = some (.int .i64 n)) :
    Calls Try.prog 57 #[.pointer (some ⟨pa, 0, none⟩)] w fun e w' => ∃ A c, e = .returned (.slice A (axisB n).length c) ∧ Seen w' A (axisB n) ∧ Below w.heap.size w w' := by
  by_cases h : -32768 ≤ n ∧ n ≤ 32767
  · have e : axisB n = octs 2 (sign n) := if_pos h
    rw [e]
    clear e
    replace h := Lib.hid h
    go_enter Try.func57, Try.ntmps57
    go_wp2_with fail
    (with_reducible refine (putInt_ok n _ h.out.1 h.out.2).mono ?_)
    intro e w' hm
    obtain ⟨A, rfl, hse, hb⟩ := made_seen hm
    clear hm
    go_wp2
    go_ret
    exact ⟨_, _, rfl, hse, hb⟩
  · have e : axisB n = [] := if_neg h
    rw [e]
    clear e
    have h' : Hid (n < -32768 ∨ 32767 < n) := Lib.hid (by omega)
    clear h
    go_enter Try.func57, Try.ntmps57
    go_wp2_with fail
    (with_reducible refine (putInt_no n _ h'.out).mono ?_)
    rintro e w' ⟨rfl, rfl⟩
    go_wp2
    go_ret
    exact ⟨_, _, rfl, Seen.none_ _ _, Below.refl _ _⟩
set_option maxHeartbeats 400000 in
theorem axisTake (pa g i : Nat) (A : Option Addr) (c : Nat) (l : List UInt8) (cs : List Value) (w : World) (hl : l.length = 2) (hse : Seen w A l) (ha : w.cell? ⟨pa, 0, none⟩ = some (.pointer (some ⟨g, i, none⟩)))
    (hg : Arr w g cs) (hi : i < cs.length) :
    Calls Try.prog 59 #[.slice A 2 c, .pointer (some ⟨pa, 0, none⟩)] w fun e w' => e = .returned (.bool true) ∧ Arr w' g (cs.set i (.int .i64 (signed (num l)))) ∧ w.grownBy w' (some g) := by
  obtain ⟨old, cg⟩ : ∃ v, w.cell? ⟨g, i, none⟩ = some v := ⟨_, hg.cell (List.getElem?_eq_getElem hi)⟩
  have fg := hg.frozen i
  have Hs := takeInt_seen A c l w hl hse
  have hA2 := hg.set i (.int .i64 (signed (num l)))
  have hgr := grown_set w ⟨g, i, none⟩ (.int .i64 (signed (num l)))
  generalize signed (num l) = x at Hs hA2 hgr ⊢
  replace Hs := Lib.hid Hs
  clear hl hse hg hi
  go_enter Try.func59, Try.ntmps59
  go_wp2_with fail
  (with_reducible refine Hs.out.mono ?_)
  rintro e w' ⟨rfl, rfl⟩
  go_wp2
  go_ret
  exact ⟨rfl, hA2, hgr⟩
set_option maxRecDepth 100000 in
set_option maxHeartbeats 1000000 in
theorem axis_fd {S : Type} {enc : S → List Value} {good : S → Prop} {i : Nat} {get : S → Int} {set : Int → S → S} (hp : Place enc good i get set) (g : Nat) (w : World) (hg : g < w.heap.size) :
    Calls Try.prog 49 #[.pointer (some ⟨g, i, none⟩)] w (Makes enc good g w (axisD get set)) := by
  have hmf := mk_run
  have A0 := (Arr.new w [.pointer (some ⟨g, i, none⟩)] 68).cell (i := 0) rfl
  have hb : Below w.heap.size w (w.alloc (.cells #[.pointer (some ⟨g, i, none⟩)] 68)) := (Below.refl _ _).alloc (Nat.le_refl _) _
  go_enter Try.func49, Try.ntmps49
  go_wp2
  have hz : (w.alloc (.cells #[.pointer (some ⟨g, i, none⟩)] 68)).heap.size = w.heap.size + 1 := by simp
  refine makes_end _ rfl hz rfl rfl ?_ hb
  refine ⟨_, _, _, _, rfl, enters_of Try.func57 (by kernel_rfl) rfl, enters_of Try.func59 (by kernel_rfl) rfl, fun W' s hw hs hA => ?_, fun W' s A c l hw hs hA hl hse hne => ?_⟩
  · exact axisPut _ g i (get s) W' (hw.cell A0 (Nat.le_refl _)) (hA.cell (hp.get s hs))
  · refine (axisTake _ g i A c l (enc s) W' hl hse (hw.cell A0 (Nat.le_refl _)) hA (hp.lt s hs)).mono ?_
    rintro e w' ⟨rfl, h1, h2⟩
    rw [(hp.set s _ hs).1] at h1
    exact ⟨rfl, (hp.set s _ hs).2, h1, h2⟩

theorem cut8n (g i : Nat) (W : World) : (Instr.sliceAt 26 (.pointer (some ⟨g, i, none⟩)) none none none).run Try.prog W = .ok (.slice (some ⟨g, i, none⟩) 8 8) W := by
  have hl : Try.prog.arrayLen 26 = 8 := by simp [Program.arrayLen, Try.underlying26]
  have he : Try.prog.elem 26 = 5 := by simp [Program.elem, Try.underlying26]
  have ht : Try.prog.underlying 26 = some (.array (Try.prog.arrayLen 26) (Try.prog.elem 26)) := by rw [hl, he]; exact Try.underlying26
  rw [run_sliceAt_array_all W _ _ ht, he, hl, size_u8]
  simp [Result.andThen, slicedAt, Addr.add]
/-- 'copy(d, s)' onto a part of a block -/
theorem wpList_copy_part (w : World) {ops : Array Oper} {rest : List Oper} {o : Oper} {a : Act} {Q : Exit → Act → World → Prop} (hgd : o.guard = none) (d s : Operand)
    (ho : o.op = .call { callee := .builtin .copy, args := #[d, s], argTypes := #[29, 29] })
    (g off n dc sc : Nat) (A : Option Addr) (hd : a.eval d = .slice (some ⟨g, off, none⟩) n dc) (hs : a.eval s = .slice A n sc) (cs : List Value) (hA : Arr w g cs) (hfit : off + n ≤ cs.length) (S : List UInt8) (hS : S.length = n) (hpos : 0 < n) (hseen : Seen w A S)
    (h : ∀ w', Arr w' g (cs.take off ++ (vals S ++ cs.drop (off + n))) → w.grownBy w' (some g) → wpList Try.prog ops Q rest (a.put o.dst (goInt (n : Nat))) w') : wpList Try.prog ops Q (o :: rest) a w := by
  subst hS
  obtain ⟨t, hg⟩ := hA
  have hlen := vals_len S
  obtain ⟨b, o', rfl, hb, hc⟩ := hseen.at_ hpos
  refine wpList_copy_own hgd d s _ _ ho 5 Try.underlying29 (by kernel_rfl) g off _ _ ⟨b, o', none⟩ _ _ hd hs cs.toArray t hg (vals S) (by rw [hlen]; exact (Nat.min_self _).symm) ?_ (by rw [hlen]; simpa using hfit) (vals_one _) ?_
  · intro j v hv
    have hj := (List.getElem?_eq_some_iff.1 hv).1
    rw [hlen] at hj
    rw [vals_get hj] at hv
    rw [Addr.add_mid, hc j hj, ← hv]
  · rw [hlen]
    refine h _ ⟨t, ?_⟩ ⟨rfl, rfl, rfl, by simp [World.setRow], fun k hk hne => setRow_other w g k _ (fun e => hne (by rw [e]))⟩
    have := setRow_heap w g cs.toArray (cs.take off ++ (vals S ++ cs.drop (off + S.length))).toArray t _ hg
    exact this
set_option maxHeartbeats 400000 in
theorem noncePut (pa g i : Nat) (cs : List Value) (l : List UInt8) (w : World) (ha : w.cell? ⟨pa, 0, none⟩ = some (.pointer (some ⟨g, i, none⟩))) (hA : Arr w g cs) (hl : l.length = 8) (hc : ∀ j (h : j < l.length), cs[i + j]? = some (.int .u8 (l[j].toNat : Int))) :
    Calls Try.prog 50 #[.pointer (some ⟨pa, 0, none⟩)] w fun e w' => ∃ A c, e = .returned (.slice A l.length c) ∧ Seen w' A l ∧ Below w.heap.size w w' := by
  have hcut := cut8n g i
  have hse : Seen w (some ⟨g, i, none⟩) l := fun _ => ⟨g, i, rfl, hA.lt, fun j hj => hA.cell (hc j hj)⟩
  rw [hl]
  clear hA hl hc
  go_enter Try.func50, Try.ntmps50
  go_wp2
  go_ret
  exact ⟨_, _, rfl, hse, Below.refl _ _⟩
set_option maxHeartbeats 400000 in
theorem nonceTake (pa g i : Nat) (A : Option Addr) (c : Nat) (l : List UInt8) (cs : List Value) (w : World) (hl : l.length = 8) (hse : Seen w A l) (ha : w.cell? ⟨pa, 0, none⟩ = some (.pointer (some ⟨g, i, none⟩)))
    (hg : Arr w g cs) (hi : i + 8 ≤ cs.length) :
    Calls Try.prog 51 #[.slice A 8 c, .pointer (some ⟨pa, 0, none⟩)] w fun e w' => e = .returned (.bool true) ∧ Arr w' g (cs.take i ++ (vals l ++ cs.drop (i + 8))) ∧ w.grownBy w' (some g) := by
  have hcut := cut8n g i
  replace hl := Lib.hid hl
  go_enter Try.func51, Try.ntmps51
  go_wp2_with (guard_target =~ wpList _ _ _ (Oper.mk _ (Op.call ⟨Callee.builtin Builtin.copy, _, _⟩) _ _ _ _ :: _) _ _; refine wpList_copy_part _ rfl _ _ rfl g i 8 8 c A rfl rfl cs hg hi l hl.out (by decide) hse ?_)
  intro w' hA hgr
  go_wp2
  go_ret
  exact ⟨rfl, hA, hgr⟩
set_option maxRecDepth 100000 in
set_option maxHeartbeats 1000000 in
theorem nonce_fd {S : Type} {enc : S → List Value} {good : S → Prop} {i : Nat} {get : S → List UInt8} {set : List UInt8 → S → S} (hp : PlaceN enc good i get set) (g : Nat) (w : World) (hg : g < w.heap.size) :
    Calls Try.prog 44 #[.pointer (some ⟨g, i, none⟩)] w (Makes enc good g w (nonceD get set)) := by
  have hmf := mk_run
  have A0 := (Arr.new w [.pointer (some ⟨g, i, none⟩)] 76).cell (i := 0) rfl
  have hb : Below w.heap.size w (w.alloc (.cells #[.pointer (some ⟨g, i, none⟩)] 76)) := (Below.refl _ _).alloc (Nat.le_refl _) _
  go_enter Try.func44, Try.ntmps44
  go_wp2
  have hz : (w.alloc (.cells #[.pointer (some ⟨g, i, none⟩)] 76)).heap.size = w.heap.size + 1 := by simp
  refine makes_end _ rfl hz rfl rfl ?_ hb
  refine ⟨_, _, _, _, rfl, enters_of Try.func50 (by kernel_rfl) rfl, enters_of Try.func51 (by kernel_rfl) rfl, fun W' s hw hs hA => ?_, fun W' s A c l hw hs hA hl hse hne => ?_⟩
  · exact noncePut _ g i (enc s) (get s) W' (hw.cell A0 (Nat.le_refl _)) hA (hp.len s hs) (hp.get s hs)
  · refine (nonceTake _ g i A c l (enc s) W' hl hse (hw.cell A0 (Nat.le_refl _)) hA (hp.lt s hs)).mono ?_
    rintro e w' ⟨rfl, h1, h2⟩
    rw [(hp.set s l hs hl).1] at h1
    exact ⟨rfl, (hp.set s l hs hl).2, h1, h2⟩
set_option maxRecDepth 100000 in
set_option maxHeartbeats 400000 in
theorem kind_fd {S : Type} {enc : S → List Value} {good : S → Prop} {i : Nat} {get : S → Int} {set : Int → S → S} (hp : Place enc good i get set) (g : Nat) (w : World) (hg : g < w.heap.size) :
    Calls Try.prog 34 #[.pointer (some ⟨g, i, none⟩)] w (Makes enc good g w (numD 1 0 255 get set)) := by
  have hR := Arr.new w [.int .i64 0, .nilFunc, .nilFunc] 66
  have hw1 : Below w.heap.size w (w.alloc (.cells #[.int .i64 0, .nilFunc, .nilFunc] 66)) := (Below.refl _ _).alloc (Nat.le_refl _) _
  have hH : Calls Try.prog 46 #[.pointer (some ⟨g, i, none⟩), .int .i64 1, .int .i64 0, .int .i64 255] (w.alloc (.cells #[.int .i64 0, .nilFunc, .nilFunc] 66)) _ := number_int hp g 1 0 255 (w.alloc (.cells #[.int .i64 0, .nilFunc, .nilFunc] 66)) (by decide) (by simp; omega)
  replace hH := Lib.hid hH
  go_enter Try.func34, Try.ntmps34
  go_wp2_with fail
  (with_reducible refine hH.out.mono ?_)
  rintro e w2 ⟨vs, rfl, hF, hb2⟩
  have hR2 := hR.since hb2
  have hw2 := hw1.trans (hb2.mono hw1.size)
  have hl := Lib.hid hF.len
  clear hR hw1 hb2
  go_wp2_with (guard_target =~ wpList _ _ _ (Oper.mk _ (Op.store _ _ _) _ _ _ _ :: _) _ _; refine wpList_store_arr (cs' := vs) 3 rfl rfl rfl rfl hR2 (by kernel_rfl) rfl hl.out hF.one ?_)
  intro w3 hR3 ho3 hb3 hs3
  have hw3 := hw2.trans hb3
  go_wp2
  refine ret_arr rfl w.heap.size _ _ rfl hR3 Try.underlying66 rfl (by rw [hl.out]; kernel_rfl) rfl ⟨_, rfl, ?_, hw3⟩
  exact hF.keep ⟨hb3.size, fun b hb _ => ho3 b fun e => by subst e; simp at hb; omega⟩ fun b _ hb => by simp at hb; omega
set_option maxRecDepth 100000 in
set_option maxHeartbeats 400000 in
theorem seq_fd {S : Type} {enc : S → List Value} {good : S → Prop} {i : Nat} {get : S → Int} {set : Int → S → S} (hp : Place enc good i get set) (g : Nat) (w : World) (hg : g < w.heap.size) :
    Calls Try.prog 36 #[.pointer (some ⟨g, i, none⟩)] w (Makes enc good g w (numD 4 0 4294967295 get set)) := by
  have hR := Arr.new w [.int .i64 0, .nilFunc, .nilFunc] 66
  have hw1 : Below w.heap.size w (w.alloc (.cells #[.int .i64 0, .nilFunc, .nilFunc] 66)) := (Below.refl _ _).alloc (Nat.le_refl _) _
  have hH : Calls Try.prog 46 #[.pointer (some ⟨g, i, none⟩), .int .i64 4, .int .i64 0, .int .i64 4294967295] (w.alloc (.cells #[.int .i64 0, .nilFunc, .nilFunc] 66)) _ := number_int hp g 4 0 4294967295 (w.alloc (.cells #[.int .i64 0, .nilFunc, .nilFunc] 66)) (by decide) (by simp; omega)
  replace hH := Lib.hid hH
  go_enter Try.func36, Try.ntmps36
  go_wp2_with fail
  (with_reducible refine hH.out.mono ?_)
  rintro e w2 ⟨vs, rfl, hF, hb2⟩
  have hR2 := hR.since hb2
  have hw2 := hw1.trans (hb2.mono hw1.size)
  have hl := Lib.hid hF.len
  clear hR hw1 hb2
  go_wp2_with (guard_target =~ wpList _ _ _ (Oper.mk _ (Op.store _ _ _) _ _ _ _ :: _) _ _; refine wpList_store_arr (cs' := vs) 3 rfl rfl rfl rfl hR2 (by kernel_rfl) rfl hl.out hF.one ?_)
  intro w3 hR3 ho3 hb3 hs3
  have hw3 := hw2.trans hb3
  go_wp2
  refine ret_arr rfl w.heap.size _ _ rfl hR3 Try.underlying66 rfl (by rw [hl.out]; kernel_rfl) rfl ⟨_, rfl, ?_, hw3⟩
  exact hF.keep ⟨hb3.size, fun b hb _ => ho3 b fun e => by subst e; simp at hb; omega⟩ fun b _ hb => by simp at hb; omega
set_option maxRecDepth 100000 in
set_option maxHeartbeats 400000 in
theorem epoch_fd {S : Type} {enc : S → List Value} {good : S → Prop} {i : Nat} {get : S → Int} {set : Int → S → S} (hp : Place enc good i get set) (g : Nat) (w : World) (hg : g < w.heap.size) :
    Calls Try.prog 39 #[.pointer (some ⟨g, i, none⟩)] w (Makes enc good g w (numD 2 0 65535 get set)) := by
  have hR := Arr.new w [.int .i64 0, .nilFunc, .nilFunc] 66
  have hw1 : Below w.heap.size w (w.alloc (.cells #[.int .i64 0, .nilFunc, .nilFunc] 66)) := (Below.refl _ _).alloc (Nat.le_refl _) _
  have hH : Calls Try.prog 46 #[.pointer (some ⟨g, i, none⟩), .int .i64 2, .int .i64 0, .int .i64 65535] (w.alloc (.cells #[.int .i64 0, .nilFunc, .nilFunc] 66)) _ := number_int hp g 2 0 65535 (w.alloc (.cells #[.int .i64 0, .nilFunc, .nilFunc] 66)) (by decide) (by simp; omega)
  replace hH := Lib.hid hH
  go_enter Try.func39, Try.ntmps39
  go_wp2_with fail
  (with_reducible refine hH.out.mono ?_)
  rintro e w2 ⟨vs, rfl, hF, hb2⟩
  have hR2 := hR.since hb2
  have hw2 := hw1.trans (hb2.mono hw1.size)
  have hl := Lib.hid hF.len
  clear hR hw1 hb2
  go_wp2_with (guard_target =~ wpList _ _ _ (Oper.mk _ (Op.store _ _ _) _ _ _ _ :: _) _ _; refine wpList_store_arr (cs' := vs) 3 rfl rfl rfl rfl hR2 (by kernel_rfl) rfl hl.out hF.one ?_)
  intro w3 hR3 ho3 hb3 hs3
  have hw3 := hw2.trans hb3
  go_wp2
  refine ret_arr rfl w.heap.size _ _ rfl hR3 Try.underlying66 rfl (by rw [hl.out]; kernel_rfl) rfl ⟨_, rfl, ?_, hw3⟩
  exact hF.keep ⟨hb3.size, fun b hb _ => ho3 b fun e => by subst e; simp at hb; omega⟩ fun b _ hb => by simp at hb; omega
set_option maxRecDepth 100000 in
set_option maxHeartbeats 400000 in
theorem role_fd {S : Type} {enc : S → List Value} {good : S → Prop} {i : Nat} {get : S → Int} {set : Int → S → S} (hp : Place enc good i get set) (g : Nat) (w : World) (hg : g < w.heap.size) :
    Calls Try.prog 35 #[.pointer (some ⟨g, i, none⟩)] w (Makes enc good g w (numD 1 0 3 get set)) := by
  have hR := Arr.new w [.int .i64 0, .nilFunc, .nilFunc] 66
  have hw1 : Below w.heap.size w (w.alloc (.cells #[.int .i64 0, .nilFunc, .nilFunc] 66)) := (Below.refl _ _).alloc (Nat.le_refl _) _
  have hH : Calls Try.prog 46 #[.pointer (some ⟨g, i, none⟩), .int .i64 1, .int .i64 0, .int .i64 3] (w.alloc (.cells #[.int .i64 0, .nilFunc, .nilFunc] 66)) _ := number_int hp g 1 0 3 (w.alloc (.cells #[.int .i64 0, .nilFunc, .nilFunc] 66)) (by decide) (by simp; omega)
  replace hH := Lib.hid hH
  go_enter Try.func35, Try.ntmps35
  go_wp2_with fail
  (with_reducible refine hH.out.mono ?_)
  rintro e w2 ⟨vs, rfl, hF, hb2⟩
  have hR2 := hR.since hb2
  have hw2 := hw1.trans (hb2.mono hw1.size)
  have hl := Lib.hid hF.len
  clear hR hw1 hb2
  go_wp2_with (guard_target =~ wpList _ _ _ (Oper.mk _ (Op.store _ _ _) _ _ _ _ :: _) _ _; refine wpList_store_arr (cs' := vs) 3 rfl rfl rfl rfl hR2 (by kernel_rfl) rfl hl.out hF.one ?_)
  intro w3 hR3 ho3 hb3 hs3
  have hw3 := hw2.trans hb3
  go_wp2
  refine ret_arr rfl w.heap.size _ _ rfl hR3 Try.underlying66 rfl (by rw [hl.out]; kernel_rfl) rfl ⟨_, rfl, ?_, hw3⟩
  exact hF.keep ⟨hb3.size, fun b hb _ => ho3 b fun e => by subst e; simp at hb; omega⟩ fun b _ hb => by simp at hb; omega
set_option maxRecDepth 100000 in
set_option maxHeartbeats 400000 in
theorem source_fd {S : Type} {enc : S → List Value} {good : S → Prop} {i : Nat} {get : S → Int} {set : Int → S → S} (hp : Place enc good i get set) (g : Nat) (w : World) (hg : g < w.heap.size) :
    Calls Try.prog 38 #[.pointer (some ⟨g, i, none⟩)] w (Makes enc good g w (numD 1 0 4 get set)) := by
  have hR := Arr.new w [.int .i64 0, .nilFunc, .nilFunc] 66
  have hw1 : Below w.heap.size w (w.alloc (.cells #[.int .i64 0, .nilFunc, .nilFunc] 66)) := (Below.refl _ _).alloc (Nat.le_refl _) _
  have hH : Calls Try.prog 46 #[.pointer (some ⟨g, i, none⟩), .int .i64 1, .int .i64 0, .int .i64 4] (w.alloc (.cells #[.int .i64 0, .nilFunc, .nilFunc] 66)) _ := number_int hp g 1 0 4 (w.alloc (.cells #[.int .i64 0, .nilFunc, .nilFunc] 66)) (by decide) (by simp; omega)
  replace hH := Lib.hid hH
  go_enter Try.func38, Try.ntmps38
  go_wp2_with fail
  (with_reducible refine hH.out.mono ?_)
  rintro e w2 ⟨vs, rfl, hF, hb2⟩
  have hR2 := hR.since hb2
  have hw2 := hw1.trans (hb2.mono hw1.size)
  have hl := Lib.hid hF.len
  clear hR hw1 hb2
  go_wp2_with (guard_target =~ wpList _ _ _ (Oper.mk _ (Op.store _ _ _) _ _ _ _ :: _) _ _; refine wpList_store_arr (cs' := vs) 3 rfl rfl rfl rfl hR2 (by kernel_rfl) rfl hl.out hF.one ?_)
  intro w3 hR3 ho3 hb3 hs3
  have hw3 := hw2.trans hb3
  go_wp2
  refine ret_arr rfl w.heap.size _ _ rfl hR3 Try.underlying66 rfl (by rw [hl.out]; kernel_rfl) rfl ⟨_, rfl, ?_, hw3⟩
  exact hF.keep ⟨hb3.size, fun b hb _ => ho3 b fun e => by subst e; simp at hb; omega⟩ fun b _ hb => by simp at hb; omega
set_option maxRecDepth 100000 in
set_option maxHeartbeats 400000 in
theorem mode_fd {S : Type} {enc : S → List Value} {good : S → Prop} {i : Nat} {get : S → Int} {set : Int → S → S} (hp : Place enc good i get set) (g : Nat) (w : World) (hg : g < w.heap.size) :
    Calls Try.prog 40 #[.pointer (some ⟨g, i, none⟩)] w (Makes enc good g w (numD 1 0 4 get set)) := by
  have hR := Arr.new w [.int .i64 0, .nilFunc, .nilFunc] 66
  have hw1 : Below w.heap.size w (w.alloc (.cells #[.int .i64 0, .nilFunc, .nilFunc] 66)) := (Below.refl _ _).alloc (Nat.le_refl _) _
  have hH : Calls Try.prog 46 #[.pointer (some ⟨g, i, none⟩), .int .i64 1, .int .i64 0, .int .i64 4] (w.alloc (.cells #[.int .i64 0, .nilFunc, .nilFunc] 66)) _ := number_int hp g 1 0 4 (w.alloc (.cells #[.int .i64 0, .nilFunc, .nilFunc] 66)) (by decide) (by simp; omega)
  replace hH := Lib.hid hH
  go_enter Try.func40, Try.ntmps40
  go_wp2_with fail
  (with_reducible refine hH.out.mono ?_)
  rintro e w2 ⟨vs, rfl, hF, hb2⟩
  have hR2 := hR.since hb2
  have hw2 := hw1.trans (hb2.mono hw1.size)
  have hl := Lib.hid hF.len
  clear hR hw1 hb2
  go_wp2_with (guard_target =~ wpList _ _ _ (Oper.mk _ (Op.store _ _ _) _ _ _ _ :: _) _ _; refine wpList_store_arr (cs' := vs) 3 rfl rfl rfl rfl hR2 (by kernel_rfl) rfl hl.out hF.one ?_)
  intro w3 hR3 ho3 hb3 hs3
  have hw3 := hw2.trans hb3
  go_wp2
  refine ret_arr rfl w.heap.size _ _ rfl hR3 Try.underlying66 rfl (by rw [hl.out]; kernel_rfl) rfl ⟨_, rfl, ?_, hw3⟩
  exact hF.keep ⟨hb3.size, fun b hb _ => ho3 b fun e => by subst e; simp at hb; omega⟩ fun b _ hb => by simp at hb; omega
set_option maxRecDepth 100000 in
set_option maxHeartbeats 400000 in
theorem class_fd {S : Type} {enc : S → List Value} {good : S → Prop} {i : Nat} {get : S → Int} {set : Int → S → S} (hp : Place enc good i get set) (g : Nat) (w : World) (hg : g < w.heap.size) :
    Calls Try.prog 41 #[.pointer (some ⟨g, i, none⟩)] w (Makes enc good g w (numD 1 1 3 get set)) := by
  have hR := Arr.new w [.int .i64 0, .nilFunc, .nilFunc] 66
  have hw1 : Below w.heap.size w (w.alloc (.cells #[.int .i64 0, .nilFunc, .nilFunc] 66)) := (Below.refl _ _).alloc (Nat.le_refl _) _
  have hH : Calls Try.prog 46 #[.pointer (some ⟨g, i, none⟩), .int .i64 1, .int .i64 1, .int .i64 3] (w.alloc (.cells #[.int .i64 0, .nilFunc, .nilFunc] 66)) _ := number_int hp g 1 1 3 (w.alloc (.cells #[.int .i64 0, .nilFunc, .nilFunc] 66)) (by decide) (by simp; omega)
  replace hH := Lib.hid hH
  go_enter Try.func41, Try.ntmps41
  go_wp2_with fail
  (with_reducible refine hH.out.mono ?_)
  rintro e w2 ⟨vs, rfl, hF, hb2⟩
  have hR2 := hR.since hb2
  have hw2 := hw1.trans (hb2.mono hw1.size)
  have hl := Lib.hid hF.len
  clear hR hw1 hb2
  go_wp2_with (guard_target =~ wpList _ _ _ (Oper.mk _ (Op.store _ _ _) _ _ _ _ :: _) _ _; refine wpList_store_arr (cs' := vs) 3 rfl rfl rfl rfl hR2 (by kernel_rfl) rfl hl.out hF.one ?_)
  intro w3 hR3 ho3 hb3 hs3
  have hw3 := hw2.trans hb3
  go_wp2
  refine ret_arr rfl w.heap.size _ _ rfl hR3 Try.underlying66 rfl (by rw [hl.out]; kernel_rfl) rfl ⟨_, rfl, ?_, hw3⟩
  exact hF.keep ⟨hb3.size, fun b hb _ => ho3 b fun e => by subst e; simp at hb; omega⟩ fun b _ hb => by simp at hb; omega
set_option maxRecDepth 100000 in
set_option maxHeartbeats 400000 in
theorem code_fd {S : Type} {enc : S → List Value} {good : S → Prop} {i : Nat} {get : S → Int} {set : Int → S → S} (hp : Place enc good i get set) (g : Nat) (w : World) (hg : g < w.heap.size) :
    Calls Try.prog 45 #[.pointer (some ⟨g, i, none⟩)] w (Makes enc good g w (numD 1 0 255 get set)) := by
  have hR := Arr.new w [.int .i64 0, .nilFunc, .nilFunc] 66
  have hw1 : Below w.heap.size w (w.alloc (.cells #[.int .i64 0, .nilFunc, .nilFunc] 66)) := (Below.refl _ _).alloc (Nat.le_refl _) _
  have hH : Calls Try.prog 52 #[.pointer (some ⟨g, i, none⟩), .int .i64 1, .int .i64 0, .int .i64 255] (w.alloc (.cells #[.int .i64 0, .nilFunc, .nilFunc] 66)) _ := number_errno hp g 1 0 255 (w.alloc (.cells #[.int .i64 0, .nilFunc, .nilFunc] 66)) (by decide) (by simp; omega)
  replace hH := Lib.hid hH
  go_enter Try.func45, Try.ntmps45
  go_wp2_with fail
  (with_reducible refine hH.out.mono ?_)
  rintro e w2 ⟨vs, rfl, hF, hb2⟩
  have hR2 := hR.since hb2
  have hw2 := hw1.trans (hb2.mono hw1.size)
  have hl := Lib.hid hF.len
  clear hR hw1 hb2
  go_wp2_with (guard_target =~ wpList _ _ _ (Oper.mk _ (Op.store _ _ _) _ _ _ _ :: _) _ _; refine wpList_store_arr (cs' := vs) 3 rfl rfl rfl rfl hR2 (by kernel_rfl) rfl hl.out hF.one ?_)
  intro w3 hR3 ho3 hb3 hs3
  have hw3 := hw2.trans hb3
  go_wp2
  refine ret_arr rfl w.heap.size _ _ rfl hR3 Try.underlying66 rfl (by rw [hl.out]; kernel_rfl) rfl ⟨_, rfl, ?_, hw3⟩
  exact hF.keep ⟨hb3.size, fun b hb _ => ho3 b fun e => by subst e; simp at hb; omega⟩ fun b _ hb => by simp at hb; omega
end Go.Proofs.Ytmibgmcgicphoaa.msg
