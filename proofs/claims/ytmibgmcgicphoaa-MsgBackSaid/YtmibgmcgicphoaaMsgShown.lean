/-
  THE HEAD OF THE STATEMENTS OF msg; messages and replies that came in.
-/
import Derived.Test.YtmibgmcgicphoaaMsgCode
import Derived.BigQuiet
import Derived.Deep.QuietTactic
namespace Go.Proofs.Ytmibgmcgicphoaa.msg
open Go.RowKit Go.Proofs.Ytmibgmcgicphoaa.octets Go.Proofs.Ytmibgmcgicphoaa.given
set_option linter.unusedVariables false
set_option linter.unusedSimpArgs false

theorem new_zm (w : World) (t : TypeId) : Arr (w.alloc (.cells #[.int .i64 0, .int .i64 0, .int .i64 0, .int .i64 0, .int .i64 0, .int .i64 0, .int .i64 0, .bool false, .int .i64 0, .int .i64 0, .int .i64 0, .int .i64 0] t)) w.heap.size (mv zM) := Arr.new_at w _ _ t rfl
theorem new_zr (w : World) (t : TypeId) : Arr (w.alloc (.cells #[.int .i64 0, .int .i64 0, .int .i64 0, .int .i64 0, .int .i64 0, .int .i64 0, .int .u8 0, .int .u8 0, .int .u8 0, .int .u8 0, .int .u8 0, .int .u8 0, .int .u8 0, .int .u8 0] t)) w.heap.size (rv zR) := Arr.new_at w _ _ t rfl
theorem below_one (w : World) (o : Obj) : Below w.heap.size w (w.alloc o) := (Below.refl _ _).alloc (Nat.le_refl _) _

theorem quiet_eq {f : FuncId} {args : Array Value} {w : World} {n : Nat} {v : Value} (h : Calls Try.prog f args (w.drewN n) fun e w' => e = .returned v ∧ w.drewN n = w') :
    Calls Try.prog f args (w.drewN n) fun e w'' => e = .returned v ∧ ∃ m, w'' = w.drewN m := h.mono fun _ _ ⟨he, hm⟩ => ⟨he, n, hm.symm⟩
/-- eight noughts held against eight noughts -/
theorem same_z8 (W : World) : (Op.equalIn 9999 26 (.agg #[.int .u8 0, .int .u8 0, .int .u8 0, .int .u8 0, .int .u8 0, .int .u8 0, .int .u8 0, .int .u8 0]) (.agg #[.int .u8 0, .int .u8 0, .int .u8 0, .int .u8 0, .int .u8 0, .int .u8 0, .int .u8 0, .int .u8 0])).run Try.prog W = .ok true W := by
  obtain ⟨i, hi, _⟩ := info_parts u8_info
  have hc : (Try.prog).cellsOf 5 = 1 := by kernel_rfl
  rw [run_equalIn_array W 9998 _ _ Try.underlying26 hi, hc, eq_items (d := 9997) Try.underlying5 (fun _ => 0) (fun _ => 0) (List.range 8) (fun i hi => ?_)]
  · rfl
  · have := List.mem_range.1 hi
    match i, this with
    | 0, _ => exact ⟨rfl, rfl⟩
    | 1, _ => exact ⟨rfl, rfl⟩
    | 2, _ => exact ⟨rfl, rfl⟩
    | 3, _ => exact ⟨rfl, rfl⟩
    | 4, _ => exact ⟨rfl, rfl⟩
    | 5, _ => exact ⟨rfl, rfl⟩
    | 6, _ => exact ⟨rfl, rfl⟩
    | 7, _ => exact ⟨rfl, rfl⟩
/-- a message that came in -/
theorem msg_came {w : World} {r : Reach} {base : Nat} {v : Value} (h : Value.okWide Try.prog w r base 24 v) : ∃ m : M, v = .agg (mv m).toArray := by
  obtain ⟨cs, rfl, hn, hk⟩ := agg_cells (ts := [3, 3, 3, 3, 3, 3, 3, 4, 3, 3, 3, 3]) (.inr ⟨_, Try.underlying24⟩) (by kernel_rfl) (by kernel_rfl) h
  match cs, hn with
  | ⟨[v0, v1, v2, v3, v4, v5, v6, v7, v8, v9, v10, v11]⟩, _ =>
    have I : ∀ (i : Nat) (u : Value), ([v0, v1, v2, v3, v4, v5, v6, v7, v8, v9, v10, v11] : List Value)[i]? = some u → ([3, 3, 3, 3, 3, 3, 3, 4, 3, 3, 3, 3] : List TypeId)[i]? = some 3 → ∃ n, u = .int .i64 n := fun i u hu ht => by
      obtain ⟨e, he, hc⟩ := hk i u (by simpa using hu)
      rw [ht] at he
      obtain rfl := Option.some.inj he
      obtain ⟨n, hn, _⟩ := int_of_cell Try.underlying3 hc
      exact ⟨n, hn⟩
    obtain ⟨k, rfl⟩ := I 0 v0 rfl rfl
    obtain ⟨s, rfl⟩ := I 1 v1 rfl rfl
    obtain ⟨ro, rfl⟩ := I 2 v2 rfl rfl
    obtain ⟨to_, rfl⟩ := I 3 v3 rfl rfl
    obtain ⟨ep, rfl⟩ := I 4 v4 rfl rfl
    obtain ⟨mo, rfl⟩ := I 5 v5 rfl rfl
    obtain ⟨cl, rfl⟩ := I 6 v6 rfl rfl
    obtain ⟨x0, rfl⟩ := I 8 v8 rfl rfl
    obtain ⟨x1, rfl⟩ := I 9 v9 rfl rfl
    obtain ⟨x2, rfl⟩ := I 10 v10 rfl rfl
    obtain ⟨x3, rfl⟩ := I 11 v11 rfl rfl
    obtain ⟨e, he, hc⟩ := hk 7 v7 rfl
    obtain rfl := Option.some.inj (he.symm.trans (rfl : _ = some 4))
    have hb : ∃ b, v7 = .bool b := by
      simp only [Cell.okWide, Try.underlying4] at hc
      cases v7 <;> simp_all [Cell.ok]
    obtain ⟨b, rfl⟩ := hb
    exact ⟨⟨k, s, ro, to_, ep, mo, cl, b, x0, x1, x2, x3⟩, rfl⟩
/-- a reply that came in -/
theorem reply_came {w : World} {r : Reach} {base : Nat} {v : Value} (h : Value.okWide Try.prog w r base 28 v) : ∃ p : R, v = .agg (rv p).toArray ∧ p.nonce.length = 8 := by
  obtain ⟨cs, rfl, hn, hk⟩ := agg_cells (ts := [3, 3, 3, 3, 3, 25, 5, 5, 5, 5, 5, 5, 5, 5]) (.inr ⟨_, Try.underlying28⟩) (by kernel_rfl) (by kernel_rfl) h
  match cs, hn with
  | ⟨[v0, v1, v2, v3, v4, v5, v6, v7, v8, v9, v10, v11, v12, v13]⟩, _ =>
    have G : ∀ (i : Nat) (u : Value) (e : TypeId) (k : IntKind), ([v0, v1, v2, v3, v4, v5, v6, v7, v8, v9, v10, v11, v12, v13] : List Value)[i]? = some u → ([3, 3, 3, 3, 3, 25, 5, 5, 5, 5, 5, 5, 5, 5] : List TypeId)[i]? = some e → Try.prog.underlying e = some (.int k) → ∃ n, u = .int k n ∧ (Lit.int k n).wf = true := fun i u e k hu ht he => by
      obtain ⟨e', he', hc⟩ := hk i u (by simpa using hu)
      rw [ht] at he'
      obtain rfl := Option.some.inj he'
      exact int_of_cell he hc
    have I := fun i u hu ht => (G i u 3 .i64 hu ht Try.underlying3)
    have U : ∀ (i : Nat) (u : Value), ([v0, v1, v2, v3, v4, v5, v6, v7, v8, v9, v10, v11, v12, v13] : List Value)[i]? = some u → ([3, 3, 3, 3, 3, 25, 5, 5, 5, 5, 5, 5, 5, 5] : List TypeId)[i]? = some 5 → ∃ c : UInt8, u = .int .u8 (c.toNat : Int) := fun i u hu ht => by
      obtain ⟨n, rfl, hw⟩ := G i u 5 .u8 hu ht Try.underlying5
      have hb : 0 ≤ n ∧ n ≤ 255 := by simpa [Lit.wf, IntKind.min, IntKind.max, IntKind.signed, IntKind.bits] using hw
      exact ⟨UInt8.ofNat n.toNat, by rw [UInt8.toNat_ofNat']; congr 1; omega⟩
    obtain ⟨k, rfl, _⟩ := I 0 v0 rfl rfl
    obtain ⟨s, rfl, _⟩ := I 1 v1 rfl rfl
    obtain ⟨ro, rfl, _⟩ := I 2 v2 rfl rfl
    obtain ⟨wh, rfl, _⟩ := I 3 v3 rfl rfl
    obtain ⟨ep, rfl, _⟩ := I 4 v4 rfl rfl
    obtain ⟨co, rfl, _⟩ := G 5 v5 25 .i64 rfl rfl Try.underlying25
    obtain ⟨a0, rfl⟩ := U 6 v6 rfl rfl
    obtain ⟨a1, rfl⟩ := U 7 v7 rfl rfl
    obtain ⟨a2, rfl⟩ := U 8 v8 rfl rfl
    obtain ⟨a3, rfl⟩ := U 9 v9 rfl rfl
    obtain ⟨a4, rfl⟩ := U 10 v10 rfl rfl
    obtain ⟨a5, rfl⟩ := U 11 v11 rfl rfl
    obtain ⟨a6, rfl⟩ := U 12 v12 rfl rfl
    obtain ⟨a7, rfl⟩ := U 13 v13 rfl rfl
    exact ⟨⟨k, s, ro, wh, ep, co, [a0, a1, a2, a3, a4, a5, a6, a7]⟩, rfl, rfl⟩

set_option maxHeartbeats 400000 in
theorem few_ok (A : Option Addr) (n cap m : Nat) (w : World) (hc : n ≤ cap) (hm : m = min n 40) :
    Calls Try.prog 10 #[.slice A n cap] w fun e w' => e = .returned (.slice A m cap) ∧ w = w' := by
  have hs := slice_h A n cap m (by omega)
  have em : min (n : Int) 40 = (m : Int) := by omega
  clear hm
  go_enter Try.func10, Try.ntmps10
  go_wp2
  go_ret
  exact ⟨rfl, rfl⟩

set_option maxRecDepth 100000 in
set_option maxHeartbeats 1000000 in
theorem shown_any (H : CodeOk) (w : World) : Calls Try.prog 9 #[] w fun e w' => e = .returned (.bool true) ∧ Below w.heap.size w w' := by
  have o1 : okM ⟨10, 5, 0, 0, 258, 3, 0, false, 0, 0, 0, 0⟩ = true := by decide
  have o2 : okR ⟨133, 0, 0, 0, 258, 0, z8⟩ = true := by decide
  have b1 : msgB ⟨10, 5, 0, 0, 258, 3, 0, false, 0, 0, 0, 0⟩ = [10, 0, 0, 0, 5, 1, 2, 3] := by decide
  have b2 : replyB ⟨133, 0, 0, 0, 258, 0, z8⟩ = [133, 1, 2] := by decide
  have p1 := fun W => H.put_at ⟨10, 5, 0, 0, 258, 3, 0, false, 0, 0, 0, 0⟩ W o1
  have p2 := fun W => H.putReply_at ⟨133, 0, 0, 0, 258, 0, z8⟩ W o2 rfl
  rw [b1] at p1
  rw [b2] at p2
  clear o1 o2 b1 b2
  go_enter Try.func9, Try.ntmps9
  go_wp2_with fail
  refine (p1 _).mono ?_
  rintro e w1 ⟨b, c, rfl, -, hh1, hw1⟩
  go_wp2_with fail
  refine (p2 _).mono ?_
  rintro e w2 ⟨d, f, rfl, -, hh2, hb2⟩
  have s1 := (hh1.since hb2).seen.str 8 c rfl _ rfl
  have s2 := hh2.seen.str 3 f rfl _ rfl
  have hw2 := hw1.trans (hb2.mono hw1.size)
  clear p1 p2 hh1 hh2 hb2
  go_wp2
  go_ret
  exact ⟨by simp, hw2⟩
end Go.Proofs.Ytmibgmcgicphoaa.msg
