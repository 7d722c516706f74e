/-
  THE WALK OF 'ShaPads': what is summed are the bytes, a bit 1, as few bits 0 as may be, and how many bits there were; unlike bytes are summed unlike.
-/
import Derived.Test.YtjapekiallfaoaaDoorShaShown
import Derived.Deep.RegionHeld3
namespace Go.Proofs.YtjapekiallfaoaaDoor.walks
open Go.ChangeShapes Go.WideShapes Go.ChangeAt Go.RowKit Go.Proofs.YtjapekiallfaoaaDoor.octets Go.Proofs.YtjapekiallfaoaaDoor.sha Go.Proofs.YtjapekiallfaoaaDoor.given
set_option linter.unusedVariables false

theorem padL_inj {x y : List UInt8} (hx : x.length ≤ 300) (hy : y.length ≤ 300) (h : padL x = padL y) : x = y := by
  have hl : padN x.length = padN y.length := by rw [← padL_len, ← padL_len, h]
  have tail : ∀ l : List UInt8, (padL l).drop (padN l.length - 8) = octs 8 (8 * l.length) := fun l => by
    have hg := padN_ge l.length
    have e : padL l = (l ++ 128 :: List.replicate (padN l.length - l.length - 9) 0) ++ octs 8 (8 * l.length) := by simp [padL]
    have e2 : (l ++ 128 :: List.replicate (padN l.length - l.length - 9) 0).length = padN l.length - 8 := by simp; omega
    rw [e, ← e2, List.drop_left]
  have h8 : octs 8 (8 * x.length) = octs 8 (8 * y.length) := by rw [← tail, ← tail, hl, h]
  have hlen : x.length = y.length := by
    have := octs_inj (k := 8) (Nat.lt_of_le_of_lt (show 8 * x.length ≤ 2400 by omega) (by decide)) (Nat.lt_of_le_of_lt (show 8 * y.length ≤ 2400 by omega) (by decide)) h8
    omega
  have := congrArg (List.take x.length) h
  rw [padL, padL, List.take_left] at this
  rw [this, hlen, List.take_left]
theorem padL_head (l : List UInt8) : (padL l).take l.length = l := by rw [padL, List.take_left]
theorem padL_get (l : List UInt8) (i : Nat) (h : l.length ≤ i) : (padL l)[i]? = (128 :: (List.replicate (padN l.length - l.length - 9) (0 : UInt8) ++ octs 8 (8 * l.length)))[i - l.length]? := by
  rw [padL, List.getElem?_append_right h]
theorem padL_mark (l : List UInt8) : (padL l)[l.length]? = some 128 := by rw [padL_get l _ (Nat.le_refl _), Nat.sub_self]; rfl
theorem padL_nought (l : List UInt8) (i : Nat) (h : l.length < i) (h2 : i < padN l.length - 8) : (padL l)[i]? = some 0 := by
  obtain ⟨m, hm⟩ : ∃ m, i - l.length = m + 1 := ⟨i - l.length - 1, by omega⟩
  rw [padL_get l _ (by omega), hm, List.getElem?_cons_succ, List.getElem?_append_left (by simp; omega), List.getElem?_replicate, if_pos (by omega)]
theorem padL_count (l : List UInt8) (j : Nat) (hj : j < 8) : (padL l)[padN l.length - 8 + j]? = some (UInt8.ofNat (8 * l.length / 256 ^ (7 - j))) := by
  have hg := padN_ge l.length
  have h8 : j < (octs 8 (8 * l.length)).length := by rw [octs_len]; exact hj
  have h := octs_get 8 (8 * l.length) j hj
  rw [List.getD_eq_getElem?_getD, List.getElem?_eq_getElem h8, Option.getD_some] at h
  rw [padL_get l _ (by omega), show padN l.length - 8 + j - l.length = (padN l.length - l.length - 9 + j) + 1 by omega, List.getElem?_cons_succ, List.getElem?_append_right (by simp), List.length_replicate, Nat.add_sub_cancel_left, List.getElem?_eq_getElem h8, h]

theorem same_texts (x y : List UInt8) (hx : x.length ≤ 300) (hy : y.length ≤ 300) (sp sq sx sy : ByteArray) (h1 : sp = ⟨(padL x).toArray⟩) (h2 : sq = ⟨(padL y).toArray⟩) (h3 : sx = ⟨x.toArray⟩) (h4 : sy = ⟨y.toArray⟩) :
    ((sp.toList == sq.toList) == (sx.toList == sy.toList)) = true := by
  subst h1 h2 h3 h4
  simp only [ByteArray.toList_eq]
  by_cases e : x = y
  · subst e; simp
  · have e2 : padL x ≠ padL y := fun h => e (padL_inj hx hy h)
    have b1 : (padL x == padL y) = false := by rw [beq_eq_false_iff_ne]; exact e2
    have b2 : (x == y) = false := by rw [beq_eq_false_iff_ne]; exact e
    simp [b1, b2]
set_option maxRecDepth 100000 in
set_option maxHeartbeats 2000000 in
theorem pads_core (a b : Option Addr) (n cap m capb : Nat) (x y : List UInt8) (p q P Q : Nat) (w : World) (hr : Seen w a x) (hrb : Seen w b y) (hp : p = min n 300) (hlp : x.length = p) (hc : n ≤ cap) (hq : q = min m 300) (hlq : y.length = q) (hcb : m ≤ capb) (hP : padN p = P) (hQ : padN q = Q) (hK : Table w) :
    Calls Tryd.prog 4 #[.slice a n cap, .slice b m capb] w fun e w' => e = .returned (.bool true) ∧ Below w.heap.size w w' := by
  have hp3 : p ≤ 300 := by omega
  have hq3 : q ≤ 300 := by omega
  have hP2 : P ≤ 372 := by have := padN_le p; omega
  have hP3 : p + 9 ≤ P := by have := padN_ge p; omega
  have hpl : (padL x).length = P := by rw [padL_len, hlp, hP]
  have hql : (padL y).length = Q := by rw [padL_len, hlq, hQ]
  have E0 : ((p : Int) + 9 + 63) / 64 * 64 = (P : Int) := by rw [← hP, padN]; omega
  have hmark : Unit → (padL x)[p]? = some 128 := fun _ => by rw [← hlp]; exact padL_mark x
  have hnought : ∀ i, p < i → i < P - 8 → (padL x)[i]? = some 0 := fun i h1 h2 => padL_nought x i (by rw [hlp]; exact h1) (by rw [hlp, hP]; exact h2)
  have hcount : ∀ j, j < 8 → (padL x)[P - 8 + j]? = some (UInt8.ofNat (8 * p / 256 ^ (7 - j))) := fun j hj => by have := padL_count x j hj; rw [hlp, hP] at this; exact this
  have hhead : Unit → (padL x).take p = x := fun _ => by rw [← hlp]; exact padL_head x
  replace hp := Lib.hid hp
  replace hlp := Lib.hid hlp
  replace hq := Lib.hid hq
  replace hlq := Lib.hid hlq
  replace hP : Unit → padN p = P := fun _ => hP
  replace hQ : Unit → padN q = Q := fun _ => hQ
  replace hpl := Lib.hid hpl
  replace hql := Lib.hid hql
  go_enter Tryd.func4, Tryd.ntmps4
  try dsimp only [List.append]
  go_wp2_with fail
  (with_reducible refine (shown_any _ hK).mono ?_)
  rintro e w1 ⟨rfl, hw1⟩
  have hr1 := hr.since hw1
  have hrb1 := hrb.since hw1
  go_wp2_with fail
  (with_reducible refine (few_ok a n cap p _ hc hp.out).mono ?_)
  rintro e w' ⟨rfl, rfl⟩
  go_wp2_with fail
  (with_reducible refine (few_ok b m capb q _ hcb hq.out).mono ?_)
  rintro e w' ⟨rfl, rfl⟩
  go_wp2_with fail
  (with_reducible refine (pad_at a p cap x P _ hlp.out (by omega) hr1 (hP ())).mono ?_)
  rintro e w2 ⟨bp, rfl, hbp, hpp, hs2⟩
  have hr2 := hr1.since hs2
  have hrb2 := hrb1.since hs2
  have hw2 := hw1.trans (hs2.mono hw1.size)
  clear hr1 hrb1 hw1 hs2 hbp
  obtain ⟨sx, hsx⟩ : ∃ s : ByteArray, s = ⟨x.toArray⟩ := ⟨_, rfl⟩
  have t1 := fun k => ((hpp.drewN k).seen.take p).str p P (by rw [hhead ()]; exact hlp.out) sx (by rw [hhead (), hsx])
  have t2 := fun k => (hr2.drewN k).str p cap hlp.out sx hsx
  have c1 : w2.cell? ⟨bp, p, none⟩ = some (.int .u8 128) := by
    have h := hmark ()
    have hl : p < (padL x).length := by rw [hpl.out]; omega
    rw [List.getElem?_eq_getElem hl] at h
    have e := hpp.cell hl
    rw [Option.some.inj h] at e
    exact e
  have hsl := slice_h (some ⟨bp, 0, none⟩) P P p (by omega)
  replace hsx : Unit → sx = ⟨x.toArray⟩ := fun _ => hsx
  go_wp2_with fail
  go_quiet (fail)
  have hpw := hpp.drewN nq
  have hrw := hr2.drewN nq
  have hrbw := hrb2.drewN nq
  have hww := below_drewN hw2 nq
  clear t1 t2 c1 hsl hpp hr2 hrb2 hw2 E0
  generalize w2.drewN nq = W at hpw hrw hrbw hww ⊢
  have hz0 : Hid (8 * p / 256 ^ (8 - 0) = 0) := Lib.hid (Nat.div_eq_of_lt (Nat.lt_of_le_of_lt (show 8 * p ≤ 2400 by omega) (by decide)))
  go_wp2
  go_loop [10, 11] (fun t s => ∃ j i k : Nat, j ≤ 8 ∧ i = P - 8 + j ∧ k = 8 * p / 256 ^ (8 - j) ∧ s = .int .i64 i ∧ t = .int .i64 k) (fun _ s => P - (intOf s).toNat)
  case atStart => exact ⟨0, P - 8, 0, by omega, by omega, hz0.out.symm, by go_num, rfl⟩
  case round =>
    obtain ⟨j, i, k, hj, hi, hk, rfl, rfl⟩ := hrel
    have hk2 : k ≤ 2400 := by have := Nat.div_le_self (8 * p) (256 ^ (8 - j)); omega
    by_cases hlt : j < 8
    · obtain ⟨c, hcc⟩ : ∃ c, UInt8.ofNat (8 * p / 256 ^ (7 - j)) = c := ⟨_, rfl⟩
      have hil : i < (padL x).length := by rw [hpl.out]; omega
      have cs : W.cell? ⟨bp, i, none⟩ = some (.int .u8 (c.toNat : Int)) := by
        have h := hcount j hlt
        rw [← hi, List.getElem?_eq_getElem hil, hcc] at h
        have e := hpw.cell hil
        rw [Option.some.inj h] at e
        exact e
      have hcl := c.toNat_lt
      have hnew : Unit → k * 256 + c.toNat = 8 * p / 256 ^ (8 - (j + 1)) := fun _ => by
        have e1 : 8 - (j + 1) = 7 - j := by omega
        have e2 : 256 ^ (8 - j) = 256 ^ (7 - j) * 256 := by rw [show 8 - j = (7 - j) + 1 by omega, Nat.pow_succ]
        rw [e1, hk, e2, ← Nat.div_div_eq_div_mul, ← hcc, UInt8.toNat_ofNat']
        omega
      have hiP : i < P := by omega
      replace hi : Unit → i = P - 8 + j := fun _ => hi
      clear hk hil hcc
      go_wp2
      go_round
      case rel => exact ⟨j + 1, i + 1, k * 256 + c.toNat, by omega, by have := hi (); omega, hnew (), by go_num, by congr 1; omega⟩
      case measure => simp [intOf]; omega
    · obtain rfl : j = 8 := by omega
      have hk8 : k = 8 * p := by rw [hk]; simp
      have hiP : P ≤ i := by omega
      have hi400 : i ≤ 400 := by omega
      replace hi : Unit → i = P - 8 + 8 := fun _ => hi
      clear hk
      subst hk8
      go_wp2
      go_loop [12] (fun s => ∃ i : Nat, p < i ∧ i ≤ P - 8 ∧ s = .int .i64 i) (fun s => P - (intOf s).toNat)
      case atStart => exact ⟨p + 1, by omega, by omega, by go_num⟩
      case round =>
        obtain ⟨i, hpi, hiP, rfl⟩ := hrel
        by_cases hlt : i < P - 8
        · have hil : i < (padL x).length := by rw [hpl.out]; omega
          have cs : W.cell? ⟨bp, i, none⟩ = some (.int .u8 0) := by
            have h := hnought i hpi hlt
            rw [List.getElem?_eq_getElem hil] at h
            have e := hpw.cell hil
            rw [Option.some.inj h] at e
            exact e
          clear hil
          go_wp2
          go_round
          case rel => exact ⟨i + 1, by omega, by omega, by go_num⟩
          case measure => simp [intOf]; omega
        · obtain ⟨sp, hsp⟩ : ∃ s : ByteArray, s = ⟨(padL x).toArray⟩ := ⟨_, rfl⟩
          obtain ⟨sq, hsq⟩ : ∃ s : ByteArray, s = ⟨(padL y).toArray⟩ := ⟨_, rfl⟩
          obtain ⟨sy, hsy⟩ : ∃ s : ByteArray, s = ⟨y.toArray⟩ := ⟨_, rfl⟩
          have e8 : IntKind.i64.wrap (8 * (p : Int)) = 8 * (p : Int) := by rw [IntKind.wrap_i64]; omega
          have u1 := (hpw.drewN 1).seen.str P P hpl.out sp hsp
          have u2 := (hrw.drewN 1).str p cap hlp.out sx (hsx ())
          have u3 := (hrbw.drewN 1).str q capb hlq.out sy hsy
          have dp : Held W.drew bp P (padL x) := hpw.drewN 1
          have dx : Seen W.drew a x := hrw.drewN 1
          have dy : Seen W.drew b y := hrbw.drewN 1
          have dw : Below w.heap.size w W.drew := below_drewN hww 1
          replace hsp : Unit → sp = ⟨(padL x).toArray⟩ := fun _ => hsp
          replace hsq : Unit → sq = ⟨(padL y).toArray⟩ := fun _ => hsq
          replace hsy : Unit → sy = ⟨y.toArray⟩ := fun _ => hsy
          go_wp2_with fail
          go_region_held (fun w' => (convert 22 9 (.slice (some ⟨bp, 0, none⟩) P P)).run Tryd.prog w' = .ok (.string sp) w' ∧ (convert 22 9 (.slice a p cap)).run Tryd.prog w' = .ok (.string sx) w' ∧ (convert 22 9 (.slice b q capb)).run Tryd.prog w' = .ok (.string sy) w')
            (first
              | exact ⟨u1, u2, u3⟩
              | exact ⟨k1, k2, k3⟩)
            (first
              | (go_at_call 10; with_reducible refine (pad_at b q capb y Q _ hlq.out (by omega) dy (hQ ())).mono ?_; rintro e w3 ⟨b2, rfl, hb2, hp2, hs3⟩; have k0 := hp2.seen.str Q Q hql.out sq (hsq ()); have k1 := (dp.since hs3).seen.str P P hpl.out sp (hsp ()); have k2 := (dx.since hs3).str p cap hlp.out sx (hsx ()); have k3 := (dy.since hs3).str q capb hlq.out sy (hsy ())))
          rw [same_texts x y (by rw [hlp.out]; omega) (by rw [hlq.out]; omega) sp sq sx sy (hsp ()) (hsq ()) (hsx ()) (hsy ())]
          have hw3 := dw.trans (hs3.mono dw.size)
          go_wp2
          go_ret
          exact ⟨rfl, hw3⟩

theorem shaPads (a : Option Addr) (len cap : Nat) (z : List Int) (b : Option Addr) (lenb capb : Nat) (zb : List Int) (w : World) (w0 : Nums .u8 w a len cap z) (w1 : Nums .u8 w b lenb capb zb) (hL : laidMet Tryd.prog [("sidestick/sha.roots", Rows.laid_sidestick_sha_roots)] w) :
    Calls Tryd.prog 4 #[.slice a len cap, .slice b lenb capb] w fun e w' => e = .returned (.bool true) ∧ Below w.heap.size w w' := by
  obtain ⟨l, rfl, hl, hcap⟩ := seen_nums w0
  obtain ⟨m, rfl, hm, hcapb⟩ := seen_nums w1
  exact pads_core a b _ cap _ capb (l.take 300) (m.take 300) (min l.length 300) (min m.length 300) _ _ w (hl.take 300) (hm.take 300) rfl (by simp; omega) hcap rfl (by simp; omega) hcapb rfl rfl (table_of hL)
end Go.Proofs.YtjapekiallfaoaaDoor.walks
