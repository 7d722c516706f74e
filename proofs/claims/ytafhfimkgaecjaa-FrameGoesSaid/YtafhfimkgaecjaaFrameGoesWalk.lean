/-
  THE WALK OF 'FrameGoes': what was told of a beginning holds whatever comes behind it.
-/
import Derived.Test.YtafhfimkgaecjaaFrameShown
import Derived.Test.YtafhfimkgaecjaaFrameRef
namespace Go.Proofs.Ytafhfimkgaecjaa.walks
open Go.ChangeShapes Go.WideShapes Go.ChangeAt Go.RowKit Go.Proofs.Ytafhfimkgaecjaa.octets Go.Proofs.Ytafhfimkgaecjaa.crc Go.Proofs.Ytafhfimkgaecjaa.frame Go.Proofs.Ytafhfimkgaecjaa.given
set_option linter.unusedVariables false
set_option linter.unusedSimpArgs false

set_option maxRecDepth 100000 in
set_option maxHeartbeats 2000000 in
theorem goes_core (a b : Option Addr) (n cap m capb : Nat) (x y : List UInt8) (p q : Nat) (w : World) (hx : Seen w a x) (hy : Seen w b y) (hp : p = min n 100) (hlp : x.length = p) (hc : n ≤ cap) (hq : q = min m 100) (hlq : y.length = q) (hcb : m ≤ capb) :
    Calls Try.prog 6 #[.slice a n cap, .slice b m capb] w fun e w' => e = .returned (.bool true) ∧ Below w.heap.size w w' := by
  have hp3 : p ≤ 100 := by omega
  have hq3 : q ≤ 100 := by omega
  have hpc : p ≤ cap := by omega
  obtain ⟨g0, g1, g2, g3⟩ := next_goes x y
  obtain ⟨F, hF⟩ : ∃ F, nextB x = F := ⟨_, rfl⟩
  obtain ⟨G, hG⟩ : ∃ G, nextB (x ++ y) = G := ⟨_, rfl⟩
  rw [hF] at g0 g1 g2 g3
  rw [hG] at g2 g3
  obtain ⟨k1, s1, c1, b1⟩ := F
  rw [hlp] at g0 g1 g2
  replace g0 := Lib.hid g0
  replace g1 := Lib.hid g1
  replace g2 := Lib.hid g2
  replace g3 := Lib.hid g3
  replace hF := Lib.hid hF
  replace hG := Lib.hid hG
  replace hp := Lib.hid hp
  replace hlp := Lib.hid hlp
  replace hq := Lib.hid hq
  replace hlq := Lib.hid hlq
  go_enter Try.func6, Try.ntmps6
  try dsimp only [List.append]
  go_wp2_with fail
  (with_reducible refine (shown_any _).mono ?_)
  rintro e w1 ⟨rfl, hw1⟩
  go_wp2_with fail
  (with_reducible refine (few_ok a n cap p _ hc hp.out).mono ?_)
  rintro e w' ⟨rfl, rfl⟩
  have hx1 := hx.since hw1
  go_wp2_with fail
  (with_reducible refine (next_at a p cap x _ _ hlp.out hpc (by omega) hx1 hF.out).mono ?_)
  rintro e w2 ⟨B, cb, rfl, hown2, hb2⟩
  dsimp only at hown2 ⊢
  have hw2 := hw1.trans (hb2.mono hw1.size)
  have hz2 := hw2.size
  clear hx1 hw1 hb2
  have hF2 := new_zf w2 30
  go_wp2_with (guard_target =~ wpList _ _ _ (Oper.mk _ (Op.store _ _ _) _ _ _ _ :: _) _ _; refine wpList_store_arr (cs' := fv k1 s1 c1 (.slice B b1.length cb)) 4 rfl rfl rfl rfl hF2 (by kernel_rfl) rfl rfl (fv_one _ _ _ _ _ _) ?_)
  intro w3 hF3 ho3 hb3 hs3
  have hw3 := (hw2.alloc hz2 (.cells #[.int .i64 0, .int .i64 0, .int .i64 0, .slice none 0 0] 30)).trans (hb3.mono hz2)
  have hown3 := (hown2.alloc (.cells #[.int .i64 0, .int .i64 0, .int .i64 0, .slice none 0 0] 30)).of_block fun g hg => ho3 g (by have := (hown2.lt hg).2; omega)
  clear hF2 hown2 hw2 ho3 hb3 hs3
  generalize w2.heap.size = g at hF3 hz2 ⊢
  have hz3 := hw3.size
  have hx3 := hx.since hw3
  go_wp2_with (at_builtin; refine wpList_append_own_any _ rfl (.tmp 14) (.tmp 15) rfl w3.heap.size _ [] rfl (own_none _ _ (Nat.le_refl _)) a p cap rfl x hlp.out (hx3.alloc _) (by rw [hlp.out]; simp; omega) (by simp) ?_)
  intro v4 w4 hown4 hg4 hat4
  replace hown4 : Own w4 w3.heap.size v4 x := hown4
  have hb4 : Below w3.heap.size w3 w4 := (below_new w3 _).grown hg4 (by simp) (by intro g hg; simp [Value.ownBlock] at hg; omega)
  have hz4 := hb4.size
  have hw4 := hw3.trans (hb4.mono hz3)
  have hy4 := hy.since hw4
  clear hg4 hat4 hx3
  go_wp2_with fail
  (with_reducible refine (few_ok b m capb q _ hcb hq.out).mono ?_)
  rintro e w' ⟨rfl, rfl⟩
  go_wp2_with (at_builtin; refine wpList_append_own_any _ rfl (.tmp 16) (.tmp 18) rfl w3.heap.size _ x rfl hown4 b q capb rfl y hlq.out hy4 (by rw [hlp.out, hlq.out]; omega) hz4 ?_)
  intro v5 w5 hown5 hg5 hat5
  have hb5 := hb4.trans (own_below hown4 hz4 hg5)
  have hw5 := hw3.trans (hb5.mono hz3)
  obtain ⟨C, cc, rfl, hs5, hcc⟩ := own_cap hown5 (k := p + q) (by rw [List.length_append, hlp.out, hlq.out])
  have hlxy : Hid ((x ++ y).length = p + q) := Lib.hid (by rw [List.length_append, hlp.out, hlq.out])
  have hF5 := hF3.since hb5
  have hown3' := hown3.since hb5
  clear hown4 hg5 hat5 hb5 hown5 hb4 hw4 hy4 hF3 hown3 hw3
  go_wp2_with fail
  (with_reducible refine (next_at C (p + q) cc (x ++ y) G _ hlxy.out hcc (by omega) hs5 hG.out).mono ?_)
  rintro e w6 ⟨D, cd, rfl, hown6, hb6⟩
  have hw6 := hw5.trans (hb6.mono hw5.size)
  have hz6 := hw6.size
  have hF6 := hF5.since hb6
  have hown6' := hown3'.since hb6
  have hlt := hF6.lt
  clear hF5 hown3' hw5 hs5
  have hG6 := new_zf w6 30
  go_wp2_with (guard_target =~ wpList _ _ _ (Oper.mk _ (Op.store _ _ _) _ _ _ _ :: _) _ _; refine wpList_store_arr (cs' := fv G.kind G.size G.code (.slice D G.body.length cd)) 4 rfl rfl rfl rfl hG6 (by kernel_rfl) rfl rfl (fv_one _ _ _ _ _ _) ?_)
  intro w7 hG7 ho7 hb7 hs7
  have hw7 := (hw6.alloc hz6 (.cells #[.int .i64 0, .int .i64 0, .int .i64 0, .slice none 0 0] 30)).trans (hb7.mono hz6)
  have hF7 := (hF6.alloc (.cells #[.int .i64 0, .int .i64 0, .int .i64 0, .slice none 0 0] 30)).of_block (ho7 _ (by omega))
  have hsF := seen_is ((hown6'.alloc (.cells #[.int .i64 0, .int .i64 0, .int .i64 0, .slice none 0 0] 30)).of_block fun g hg => ho7 g (by have := (hown6'.lt hg).2; omega))
  have hsG := seen_is ((hown6.alloc (.cells #[.int .i64 0, .int .i64 0, .int .i64 0, .slice none 0 0] 30)).of_block fun g hg => ho7 g (by have := (hown6.lt hg).2; omega))
  clear hF6 hown6 hown6' hb6 hw6 hG6 ho7 hb7 hs7
  generalize w6.heap.size = h at hG7 hz6 hlt ⊢
  obtain ⟨a0, a1, a2, a3⟩ := fv_cells hF7
  obtain ⟨d0, d1, d2, d3⟩ := fv_cells hG7
  by_cases hk0 : k1 = 0
  · subst hk0
    obtain ⟨rfl, hp37⟩ := g0.out rfl
    have t1 : decide ((p : Int) < 37) = true := decide_eq_true (by omega)
    go_wp2
    go_ret
    exact ⟨rfl, hw7⟩
  · obtain ⟨e1, e2⟩ := g1.out hk0
    have t0 : ((k1 : Int) == 0) = false := by rw [beq_eq_false_iff_ne]; omega
    have t1 : decide ((s1 : Int) < 1) = false := decide_eq_false (by omega)
    have t2 : decide ((p : Int) < (s1 : Int)) = false := decide_eq_false (by omega)
    by_cases hk1 : k1 = 1
    · subst hk1
      obtain ⟨h1, h2, h3⟩ := g2.out rfl
      rw [h1] at d0
      simp only [show ((1 : Nat) : Int) = 1 from rfl] at d0
      have t3 : decide ((s1 : Int) ≤ (G.size : Int)) = true := decide_eq_true (by omega)
      by_cases h4 : G.size = s1
      · have t4 : ((G.size : Int) == (s1 : Int)) = true := by rw [beq_iff_eq]; omega
        clear h1 h3 h4
        go_wp2
        go_ret
        exact ⟨rfl, hw7⟩
      · have t4 : ((G.size : Int) == (s1 : Int)) = false := by rw [beq_eq_false_iff_ne]; omega
        have t5 : ((s1 : Int) == (p : Int)) = true := by rw [beq_iff_eq]; omega
        clear h1 h3 h4
        go_wp2
        go_ret
        exact ⟨rfl, hw7⟩
    · have t6 : ((k1 : Int) == 1) = false := by rw [beq_eq_false_iff_ne]; omega
      have e : G = _ := g3.out hk0 hk1
      subst e
      dsimp only at d0 d1 d2 d3 hsG
      go_wp2_with fail
      (with_reducible refine (same_at B D cb cd k1 s1 c1 b1 _ hsF hsG).mono ?_)
      rintro e w8 ⟨rfl, hb8⟩
      have hw8 := hw7.trans (hb8.mono hw7.size)
      go_wp2
      go_ret
      exact ⟨rfl, hw8⟩

theorem frameGoes (a : Option Addr) (len cap : Nat) (z : List Int) (b : Option Addr) (lenb capb : Nat) (zb : List Int) (w : World) (w0 : Nums .u8 w a len cap z) (w1 : Nums .u8 w b lenb capb zb) :
    Calls Try.prog 6 #[.slice a len cap, .slice b lenb capb] w fun e w' => e = .returned (.bool true) ∧ Below w.heap.size w w' := by
  obtain ⟨l, rfl, hl, hcap⟩ := seen_nums w0
  obtain ⟨m, rfl, hm, hcapb⟩ := seen_nums w1
  exact goes_core a b _ cap _ capb (l.take 100) (m.take 100) (min l.length 100) (min m.length 100) w (hl.take 100) (hm.take 100) rfl (by simp; omega) hcap rfl (by simp; omega) hcapb
end Go.Proofs.Ytafhfimkgaecjaa.walks
