/-
  FIELDS IN MEMORY: what their two functions do, whenever they are called; the contracts of what makes them of numbers. (Written by program: wip/tools/gen_msg_fd2.py.)
-/
import Derived.Test.YtmibgmcgicphoaaMsgFdNum
import Derived.Laws.EntriesVeiled
import Derived.Shelf.Abstract
namespace Go.Proofs.Ytmibgmcgicphoaa.msg
open Go.RowKit Go.Proofs.Ytmibgmcgicphoaa.octets Go.Proofs.Ytmibgmcgicphoaa.pack
set_option linter.unusedVariables false
set_option linter.unusedSimpArgs false

/-- the blocks of B are as they were -/
def Keeps (B : Nat → Prop) (w w' : World) : Prop := w.heap.size ≤ w'.heap.size ∧ ∀ b, B b → b < w.heap.size → w'.heap[b]? = w.heap[b]?
theorem Keeps.refl (B : Nat → Prop) (w : World) : Keeps B w w := ⟨Nat.le_refl _, fun _ _ _ => rfl⟩
theorem Keeps.trans {B : Nat → Prop} {a b c : World} (h : Keeps B a b) (k : Keeps B b c) : Keeps B a c := ⟨Nat.le_trans h.1 k.1, fun x hx hl => (k.2 x hx (Nat.lt_of_lt_of_le hl h.1)).trans (h.2 x hx hl)⟩
theorem Keeps.of_below {B : Nat → Prop} {w w' : World} (h : Below w.heap.size w w') : Keeps B w w' := ⟨h.size, fun b _ hb => h.block b hb⟩
theorem Keeps.of_grown {B : Nat → Prop} {w w' : World} {g : Nat} (h : w.grownBy w' (some g)) (hB : ¬ B g) : Keeps B w w' := ⟨h.size, fun b hb hl => h.block b hl fun e => hB (Option.some.inj e ▸ hb)⟩
theorem Keeps.mono {B B' : Nat → Prop} {w w' : World} (h : Keeps B w w') (hB : ∀ b, B' b → B b) : Keeps B' w w' := ⟨h.1, fun b hb hl => h.2 b (hB b hb) hl⟩
theorem Keeps.cell {B : Nat → Prop} {w w' : World} (h : Keeps B w w') {a : Addr} {v : Value} (hc : w.cell? a = some v) (hB : B a.block) : w'.cell? a = some v := (World.cell?_of_block (h.2 _ hB (World.block_lt_of_cell? w a hc))).trans hc
/-- the three cells of a field of what lies in block g; B: the blocks that it holds on to -/
def FieldAt {S : Type} (enc : S → List Value) (good : S → Prop) (g : Nat) (B : Nat → Prop) (W : World) (d : FD S) (vs : List Value) : Prop :=
  ∃ p lp q lq, vs = [.int .i64 (d.size : Int), .func (.func p) #[] lp, .func (.func q) #[] lq] ∧
    (∀ args w, (callFunc p args).run Try.prog w = .ok (.enter p args) w) ∧ (∀ args w, (callFunc q args).run Try.prog w = .ok (.enter q args) w) ∧
    (∀ W' s, Keeps B W W' → good s → Arr W' g (enc s) → Calls Try.prog p lp W' fun e w' => ∃ A c, e = .returned (.slice A (d.put s).length c) ∧ Seen w' A (d.put s) ∧ Below W'.heap.size W' w') ∧
    (∀ W' s A c l, Keeps B W W' → good s → Arr W' g (enc s) → l.length = d.size → Seen W' A l → (∀ a, A = some a → a.block ≠ g) →
      Calls Try.prog q (#[.slice A d.size c] ++ lq) W' fun e w' => e = .returned (.bool (d.take l s).1) ∧ good (d.take l s).2 ∧ Arr w' g (enc (d.take l s).2) ∧ W'.grownBy w' (some g))
theorem FieldAt.keep {S : Type} {enc : S → List Value} {good : S → Prop} {g : Nat} {B B' : Nat → Prop} {W W' : World} {d : FD S} {vs : List Value} (h : FieldAt enc good g B W d vs) (hg : Keeps B W W') (hB : ∀ b, b < W.heap.size → B b → B' b) : FieldAt enc good g B' W' d vs := by
  obtain ⟨p, lp, q, lq, h1, h2, h3, h4, h5⟩ := h
  have on : ∀ W'', Keeps B' W' W'' → Keeps B W W'' := fun W'' k => ⟨Nat.le_trans hg.1 k.1, fun b hb hl => (k.2 b (hB b hl hb) (Nat.lt_of_lt_of_le hl hg.1)).trans (hg.2 b hb hl)⟩
  exact ⟨p, lp, q, lq, h1, h2, h3, fun W'' s hw => h4 W'' s (on W'' hw), fun W'' s A c l hw => h5 W'' s A c l (on W'' hw)⟩
theorem FieldAt.since {S : Type} {enc : S → List Value} {good : S → Prop} {g : Nat} {B : Nat → Prop} {W W' : World} {d : FD S} {vs : List Value} (h : FieldAt enc good g B W d vs) (hb : Below W.heap.size W W') : FieldAt enc good g B W' d vs := h.keep (Keeps.of_below hb) fun _ _ h => h
theorem FieldAt.len {S : Type} {enc : S → List Value} {good : S → Prop} {g : Nat} {B : Nat → Prop} {W : World} {d : FD S} {vs : List Value} (h : FieldAt enc good g B W d vs) : vs.length = 3 := by obtain ⟨_, _, _, _, rfl, _⟩ := h; rfl
theorem FieldAt.one {S : Type} {enc : S → List Value} {good : S → Prop} {g : Nat} {B : Nat → Prop} {W : World} {d : FD S} {vs : List Value} (h : FieldAt enc good g B W d vs) : ∀ v ∈ vs, v.oneCell' = true := by
  obtain ⟨_, _, _, _, rfl, _⟩ := h
  intro v hv
  simp only [List.mem_cons, List.not_mem_nil, or_false] at hv
  rcases hv with rfl | rfl | rfl <;> rfl
/-- a call that makes such a field -/
def Makes {S : Type} (enc : S → List Value) (good : S → Prop) (g : Nat) (w : World) (d : FD S) (e : Ending) (w' : World) : Prop := ∃ vs, e = .returned (.agg vs.toArray) ∧ FieldAt enc good g (fun b => w.heap.size ≤ b) w' d vs ∧ Below w.heap.size w w'
/-- number i of the cells is the number that get tells, and set lays -/
structure Place {S : Type} (enc : S → List Value) (good : S → Prop) (i : Nat) (get : S → Int) (set : Int → S → S) : Prop where
  lt : ∀ s, good s → i < (enc s).length
  get : ∀ s, good s → (enc s)[i]? = some (.int .i64 (get s))
  set : ∀ s n, good s → (enc s).set i (.int .i64 n) = enc (set n s) ∧ good (set n s)

theorem mk_run (fn : Fn) (first cap : Array Value) (w : World) : (Instr.makeFunc fn first cap).run Try.prog w = .ok (.func fn first cap) w := rfl
theorem Makes.open_ {S : Type} {enc : S → List Value} {good : S → Prop} {g : Nat} {w w' : World} {d : FD S} {e : Ending} (h : Makes enc good g w d e w') : ∃ k f f', e = .returned (.agg #[.int .i64 k, f, f']) ∧ f.oneCell' = true ∧ f'.oneCell' = true ∧ FieldAt enc good g (fun b => w.heap.size ≤ b) w' d [.int .i64 k, f, f'] ∧ Below w.heap.size w w' := by
  obtain ⟨vs, rfl, hF, hb⟩ := h
  have h0 := hF
  obtain ⟨p, lp, q, lq, rfl, _⟩ := h0
  exact ⟨_, _, _, rfl, rfl, rfl, hF, hb⟩
/-- the end of a call that makes a field: it lies in the block made last -/
theorem makes_end {S : Type} {enc : S → List Value} {good : S → Prop} {g : Nat} {w0 W : World} {d : FD S} {fn : Func} {a : Act} {p : Tmp} {n : Nat} (cs : List Value) (h : fn.results = #[.cell p 66]) (hz : W.heap.size = n) (hp : a.tmps.getD p undef = .pointer (some ⟨n, 0, none⟩)) (hd : a.defers = [])
    (hF : FieldAt enc good g (fun b => w0.heap.size ≤ b) W d cs) (hb : Below w0.heap.size w0 W) : bodyPost Try.prog fn (Makes enc good g w0 d) .ret a (W.alloc (.cells cs.toArray 66)) := by
  subst hz
  have hl := hF.len
  have hbb : Below W.heap.size W (W.alloc (.cells cs.toArray 66)) := (Below.refl _ _).alloc (Nat.le_refl _) _
  exact ret_arr h _ _ _ hp (Arr.new W cs _) Try.underlying66 rfl (by rw [hl]; kernel_rfl) hd ⟨_, rfl, hF.since hbb, hb.trans (hbb.mono hb.size)⟩
theorem field_int {S : Type} {enc : S → List Value} {good : S → Prop} {i : Nat} {get : S → Int} {set : Int → S → S} (hp : Place enc good i get set) {g k pa ps pl ph : Nat} {B : Nat → Prop} {low high : Int} {W : World} (hk : k ≤ 4) (ha : W.cell? ⟨pa, 0, none⟩ = some (.pointer (some ⟨g, i, none⟩))) (hs : W.cell? ⟨ps, 0, none⟩ = some (.int .i64 k))
    (hlo : W.cell? ⟨pl, 0, none⟩ = some (.int .i64 low)) (hhi : W.cell? ⟨ph, 0, none⟩ = some (.int .i64 high)) (ga : B pa) (gs : B ps) (gl : B pl) (gh : B ph) (hB : ¬ B g) :
    FieldAt enc good g B W (numD k low high get set) [.int .i64 k, .func (.func 53) #[] #[.pointer (some ⟨pa, 0, none⟩), .pointer (some ⟨ps, 0, none⟩)], .func (.func 55) #[] #[.pointer (some ⟨pa, 0, none⟩), .pointer (some ⟨pl, 0, none⟩), .pointer (some ⟨ph, 0, none⟩)]] := by
  have ne : ∀ {x : Nat}, B x → x ≠ g := fun h e => hB (e ▸ h)
  refine ⟨_, _, _, _, rfl, enters_of Try.func53 (by kernel_rfl) rfl, enters_of Try.func55 (by kernel_rfl) rfl, fun W' s hw hg hA => ?_, fun W' s A c l hw hg hA hl hse hne => ?_⟩
  · exact numPut_int pa ps g i k (get s) W' hk (hw.cell ha ga) (hw.cell hs gs) (hA.cell (hp.get s hg))
  · refine (numTake_int pa pl ph g i k low high A c l (enc s) W' hk hl hse (hw.cell ha ga) (hw.cell hlo gl) (hw.cell hhi gh) hA (hp.lt s hg) (ne ga) (ne gl) (ne gh)).mono ?_
    rintro e w' ⟨rfl, h1, h2⟩
    rw [(hp.set s _ hg).1] at h1
    exact ⟨rfl, (hp.set s _ hg).2, h1, h2⟩
set_option maxRecDepth 100000 in
set_option maxHeartbeats 1000000 in
theorem number_int {S : Type} {enc : S → List Value} {good : S → Prop} {i : Nat} {get : S → Int} {set : Int → S → S} (hp : Place enc good i get set) (g k : Nat) (low high : Int) (w : World) (hk : k ≤ 4) (hg : g < w.heap.size) :
    Calls Try.prog 46 #[.pointer (some ⟨g, i, none⟩), .int .i64 k, .int .i64 low, .int .i64 high] w (Makes enc good g w (numD k low high get set)) := by
  have hmf := mk_run
  have A0 := ((((Arr.new w [.pointer (some ⟨g, i, none⟩)] 68).alloc (.cells #[.int .i64 k] 3)).alloc (.cells #[.int .i64 low] 3)).alloc (.cells #[.int .i64 high] 3))
  have A1 := (((Arr.new (w.alloc (.cells #[.pointer (some ⟨g, i, none⟩)] 68)) [.int .i64 k] 3).alloc (.cells #[.int .i64 low] 3)).alloc (.cells #[.int .i64 high] 3))
  have A2 := ((Arr.new ((w.alloc (.cells #[.pointer (some ⟨g, i, none⟩)] 68)).alloc (.cells #[.int .i64 k] 3)) [.int .i64 low] 3).alloc (.cells #[.int .i64 high] 3))
  have A3 := Arr.new (((w.alloc (.cells #[.pointer (some ⟨g, i, none⟩)] 68)).alloc (.cells #[.int .i64 k] 3)).alloc (.cells #[.int .i64 low] 3)) [.int .i64 high] 3
  simp only [World.size_alloc] at A1 A2 A3
  have hb : Below w.heap.size w ((((w.alloc (.cells #[.pointer (some ⟨g, i, none⟩)] 68)).alloc (.cells #[.int .i64 k] 3)).alloc (.cells #[.int .i64 low] 3)).alloc (.cells #[.int .i64 high] 3)) := (((((Below.refl _ _).alloc (Nat.le_refl _) _).alloc (by simp) _).alloc (by simp; omega) _).alloc (by simp; omega) _)
  go_enter Try.func46, Try.ntmps46
  go_wp2
  have hz : ((((w.alloc (.cells #[.pointer (some ⟨g, i, none⟩)] 68)).alloc (.cells #[.int .i64 k] 3)).alloc (.cells #[.int .i64 low] 3)).alloc (.cells #[.int .i64 high] 3)).heap.size = w.heap.size + 1 + 1 + 1 + 1 := by simp
  have A0 := A0.cell (i := 0) rfl
  have A1 := A1.cell (i := 0) rfl
  have A2 := A2.cell (i := 0) rfl
  have A3 := A3.cell (i := 0) rfl
  have hF := field_int (B := fun b => w.heap.size ≤ b) hp hk A0 A1 A2 A3 (by omega) (by omega) (by omega) (by omega) (by omega)
  exact makes_end _ rfl hz rfl rfl hF hb
theorem field_errno {S : Type} {enc : S → List Value} {good : S → Prop} {i : Nat} {get : S → Int} {set : Int → S → S} (hp : Place enc good i get set) {g k pa ps pl ph : Nat} {B : Nat → Prop} {low high : Int} {W : World} (hk : k ≤ 4) (ha : W.cell? ⟨pa, 0, none⟩ = some (.pointer (some ⟨g, i, none⟩))) (hs : W.cell? ⟨ps, 0, none⟩ = some (.int .i64 k))
    (hlo : W.cell? ⟨pl, 0, none⟩ = some (.int .i64 low)) (hhi : W.cell? ⟨ph, 0, none⟩ = some (.int .i64 high)) (ga : B pa) (gs : B ps) (gl : B pl) (gh : B ph) (hB : ¬ B g) :
    FieldAt enc good g B W (numD k low high get set) [.int .i64 k, .func (.func 61) #[] #[.pointer (some ⟨pa, 0, none⟩), .pointer (some ⟨ps, 0, none⟩)], .func (.func 62) #[] #[.pointer (some ⟨pa, 0, none⟩), .pointer (some ⟨pl, 0, none⟩), .pointer (some ⟨ph, 0, none⟩)]] := by
  have ne : ∀ {x : Nat}, B x → x ≠ g := fun h e => hB (e ▸ h)
  refine ⟨_, _, _, _, rfl, enters_of Try.func61 (by kernel_rfl) rfl, enters_of Try.func62 (by kernel_rfl) rfl, fun W' s hw hg hA => ?_, fun W' s A c l hw hg hA hl hse hne => ?_⟩
  · exact numPut_errno pa ps g i k (get s) W' hk (hw.cell ha ga) (hw.cell hs gs) (hA.cell (hp.get s hg))
  · refine (numTake_errno pa pl ph g i k low high A c l (enc s) W' hk hl hse (hw.cell ha ga) (hw.cell hlo gl) (hw.cell hhi gh) hA (hp.lt s hg) (ne ga) (ne gl) (ne gh)).mono ?_
    rintro e w' ⟨rfl, h1, h2⟩
    rw [(hp.set s _ hg).1] at h1
    exact ⟨rfl, (hp.set s _ hg).2, h1, h2⟩
set_option maxRecDepth 100000 in
set_option maxHeartbeats 1000000 in
theorem number_errno {S : Type} {enc : S → List Value} {good : S → Prop} {i : Nat} {get : S → Int} {set : Int → S → S} (hp : Place enc good i get set) (g k : Nat) (low high : Int) (w : World) (hk : k ≤ 4) (hg : g < w.heap.size) :
    Calls Try.prog 52 #[.pointer (some ⟨g, i, none⟩), .int .i64 k, .int .i64 low, .int .i64 high] w (Makes enc good g w (numD k low high get set)) := by
  have hmf := mk_run
  have A0 := ((((Arr.new w [.pointer (some ⟨g, i, none⟩)] 78).alloc (.cells #[.int .i64 k] 3)).alloc (.cells #[.int .i64 low] 25)).alloc (.cells #[.int .i64 high] 25))
  have A1 := (((Arr.new (w.alloc (.cells #[.pointer (some ⟨g, i, none⟩)] 78)) [.int .i64 k] 3).alloc (.cells #[.int .i64 low] 25)).alloc (.cells #[.int .i64 high] 25))
  have A2 := ((Arr.new ((w.alloc (.cells #[.pointer (some ⟨g, i, none⟩)] 78)).alloc (.cells #[.int .i64 k] 3)) [.int .i64 low] 25).alloc (.cells #[.int .i64 high] 25))
  have A3 := Arr.new (((w.alloc (.cells #[.pointer (some ⟨g, i, none⟩)] 78)).alloc (.cells #[.int .i64 k] 3)).alloc (.cells #[.int .i64 low] 25)) [.int .i64 high] 25
  simp only [World.size_alloc] at A1 A2 A3
  have hb : Below w.heap.size w ((((w.alloc (.cells #[.pointer (some ⟨g, i, none⟩)] 78)).alloc (.cells #[.int .i64 k] 3)).alloc (.cells #[.int .i64 low] 25)).alloc (.cells #[.int .i64 high] 25)) := (((((Below.refl _ _).alloc (Nat.le_refl _) _).alloc (by simp) _).alloc (by simp; omega) _).alloc (by simp; omega) _)
  go_enter Try.func52, Try.ntmps52
  go_wp2
  have hz : ((((w.alloc (.cells #[.pointer (some ⟨g, i, none⟩)] 78)).alloc (.cells #[.int .i64 k] 3)).alloc (.cells #[.int .i64 low] 25)).alloc (.cells #[.int .i64 high] 25)).heap.size = w.heap.size + 1 + 1 + 1 + 1 := by simp
  have A0 := A0.cell (i := 0) rfl
  have A1 := A1.cell (i := 0) rfl
  have A2 := A2.cell (i := 0) rfl
  have A3 := A3.cell (i := 0) rfl
  have hF := field_errno (B := fun b => w.heap.size ≤ b) hp hk A0 A1 A2 A3 (by omega) (by omega) (by omega) (by omega) (by omega)
  exact makes_end _ rfl hz rfl rfl hF hb
end Go.Proofs.Ytmibgmcgicphoaa.msg
