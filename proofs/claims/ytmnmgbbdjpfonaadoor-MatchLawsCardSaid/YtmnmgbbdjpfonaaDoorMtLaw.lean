/- match: the law MatchLaws, walked. Condition: the tables of utf8. -/
import Derived.Test.YtmnmgbbdjpfonaaDoorMtB3
namespace Go.Proofs.YtmnmgbbdjpfonaaDoor
open Go.RowKit
set_option linter.unusedVariables false
set_option maxHeartbeats 8000000 in
set_option maxRecDepth 100000 in
theorem matchLaws_walk (t : Tr) (A : Option Addr) (c n : Nat) (u : Tr) (B : Option Addr) (e m : Nat) (r : Rec) (Ar : Option Addr) (cr : Nat) (W : World) (hT : TrAt (fun _ => True) W n A t) (hU : TrAt (fun _ => True) W m B u) (hR : RIn W r Ar cr) (hS : RSmall r) (hTb : Tabs W) :
    Calls Tryd.prog 5 #[exV t A c, exV u B e, recV r Ar cr] W (Yes W) := by
  have cs := fun w (h : B3 W t A c n u B e m r Ar cr w) => rSize_c (fun _ => True) n t A c w h.tree
  have cd := fun w (h : B3 W t A c n u B e m r Ar cr w) => rDepth_c (fun _ => True) n t A c w h.tree
  have cs2 := fun w (h : B3 W t A c n u B e m r Ar cr w) => rSize_c (fun _ => True) m u B e w h.tree2
  have cd2 := fun w (h : B3 W t A c n u B e m r Ar cr w) => rDepth_c (fun _ => True) m u B e w h.tree2
  have cl := fun w (h : Tabs w) => live8_c w h
  have HB := Lib.hid (B3.start (c := c) (e := e) hT hU hR hTb)
  obtain ⟨⟨x0, x1, x2, x3⟩, ⟨u0, u1, u2, u3⟩, y0, y1, y2, y3, y4, y5, y6⟩ := HB.out.cells
  have hc : ∀ w, B3 W t A c n u B e m r Ar cr w → _ := fun w h => h.cells
  by_cases hm : sizeG t ≤ 10 ∧ sizeG u ≤ 10 ∧ depthG t ≤ 4 ∧ depthG u ≤ 4
  · have hx : OkT 3 10 t := OkT.of (by omega) (by omega) (by decide) (by decide)
    have hy : OkT 3 10 u := OkT.of (by omega) (by omega) (by decide) (by decide)
    obtain ⟨hm1, hm2, hm3, hm4⟩ := hm
    have cp := fun w (h : B3 W t A c n u B e m r Ar cr w) => pmatch_c t A c r Ar cr w (trAt_to h.tree (depD_le hx.dep (by decide))) h.rin h.tabs
    have cq := fun w (h : B3 W t A c n u B e m r Ar cr w) => pmatch_c u B e r Ar cr w (trAt_to h.tree2 (depD_le hy.dep (by decide))) h.rin h.tabs
    by_cases hr : (r.heads.length : Int) ≤ 20
    · by_cases h0 : (matchG t r).2 = 0
      · by_cases h9 : (matchG u r).2 = 0
        · obtain ⟨g1, g2⟩ := matchG_ok h0
          obtain ⟨g3, _⟩ := matchG_ok h9
          have gp := checkG_ok g1
          have gq := checkG_ok g3
          have k0 : ∀ w (h : B3 W t A c n u B e m r Ar cr w), Calls Tryd.prog 11 #[.agg #[.int .i64 0, .string ⟨#[]⟩, .string ⟨#[]⟩, .slice none 0 0], recV r Ar cr] w (Good w (Told (true, 0))) := fun w h => by
            have := pmatch_c N0 none 0 r Ar cr w (N0_at w none 19) h.rin h.tabs
            rw [matchG_is (OkT.zero.ok (by decide) (by decide) rfl) g2, zero_lets] at this
            exact this
          have k1 : ∀ w q (h : B3 W t A c n u B e m r Ar cr w) (hq : Box w q 24 #[.int .i64 t.op, .string t.name, .string t.value, .slice A t.kids.length c, .int .i64 u.op, .string u.name, .string u.value, .slice B u.kids.length e]), Calls Tryd.prog 11 #[.agg #[.int .i64 1, .string ⟨#[]⟩, .string ⟨#[]⟩, .slice (some ⟨q, 0, none⟩) 2 2], recV r Ar cr] w (Good w (Told ((letsG r 6 t && letsG r 6 u), 0))) := fun w q h hq => by
            have := pmatch_c (N2 1 t u) (some ⟨q, 0, none⟩) 2 r Ar cr w ((N2_at 1 (.inl rfl) hq (trAt_to h.tree hx.dep) (trAt_to h.tree2 hy.dep)).le (by decide)) h.rin h.tabs
            rw [matchG_is ((hx.two 1 hy).ok (by decide) (by decide) (by rw [two_parts (.inl rfl) hx hy (by decide), gp, gq]; rfl)) g2, and_lets r hx hy (by decide)] at this
            exact this
          have k2 : ∀ w q (h : B3 W t A c n u B e m r Ar cr w) (hq : Box w q 24 #[.int .i64 u.op, .string u.name, .string u.value, .slice B u.kids.length e, .int .i64 t.op, .string t.name, .string t.value, .slice A t.kids.length c]), Calls Tryd.prog 11 #[.agg #[.int .i64 2, .string ⟨#[]⟩, .string ⟨#[]⟩, .slice (some ⟨q, 0, none⟩) 2 2], recV r Ar cr] w (Good w (Told ((letsG r 6 u || letsG r 6 t), 0))) := fun w q h hq => by
            have := pmatch_c (N2 2 u t) (some ⟨q, 0, none⟩) 2 r Ar cr w ((N2_at 2 (.inr rfl) hq (trAt_to h.tree2 hy.dep) (trAt_to h.tree hx.dep)).le (by decide)) h.rin h.tabs
            rw [matchG_is ((hy.two 2 hx).ok (by decide) (by decide) (by rw [two_parts (.inr rfl) hy hx (by decide), gp, gq]; rfl)) g2, or_lets r hy hx (by decide)] at this
            exact this
          have k3 : ∀ w q (h : B3 W t A c n u B e m r Ar cr w) (hq : Box w q 24 #[.int .i64 t.op, .string t.name, .string t.value, .slice A t.kids.length c]), Calls Tryd.prog 11 #[.agg #[.int .i64 3, .string ⟨#[]⟩, .string ⟨#[]⟩, .slice (some ⟨q, 0, none⟩) 1 1], recV r Ar cr] w (Good w (Told ((!(letsG r 6 t)), 0))) := fun w q h hq => by
            have := pmatch_c (N1 t) (some ⟨q, 0, none⟩) 1 r Ar cr w ((N1_at hq (trAt_to h.tree hx.dep)).le (by decide)) h.rin h.tabs
            rw [matchG_is (hx.one.ok (by decide) (by decide) (by rw [one_parts hx (by decide), gp])) g2, not_lets r hx (by decide)] at this
            exact this
          rw [matchG_is g1 g2] at cp
          rw [matchG_is g3 g2] at cq
          clear hT hU hR hTb h0 h9 g1 g2 g3 gp gq hx hy
          generalize sizeG t = sg at *
          generalize depthG t = dg at *
          generalize sizeG u = sg2 at *
          generalize depthG u = dg2 at *
          generalize letsG r 6 t = lv at *
          generalize letsG r 6 u = lu at *
          unfold exV exC recV recC Yes Told at *
          go_enter Tryd.func5, Tryd.ntmps5
          go_wp2_with fail
          with_reducible refine (cs _ HB.out).mono ?_
          rintro en w1 ⟨rfl, hb1⟩
          have HB1 := Lib.hid (HB.out.later hb1)
          clear hb1 x0 x1 x2 x3 u0 u1 u2 u3 y0 y1 y2 y3 y4 y5 y6 HB cs
          obtain ⟨⟨x0, x1, x2, x3⟩, ⟨u0, u1, u2, u3⟩, y0, y1, y2, y3, y4, y5, y6⟩ := hc _ HB1.out
          go_wp2_with fail
          with_reducible refine (cs2 _ HB1.out).mono ?_
          rintro en w2 ⟨rfl, hb2⟩
          have HB2 := Lib.hid (HB1.out.later hb2)
          clear hb2 x0 x1 x2 x3 u0 u1 u2 u3 y0 y1 y2 y3 y4 y5 y6 HB1 cs2
          obtain ⟨⟨x0, x1, x2, x3⟩, ⟨u0, u1, u2, u3⟩, y0, y1, y2, y3, y4, y5, y6⟩ := hc _ HB2.out
          go_wp2_with fail
          with_reducible refine (cd _ HB2.out).mono ?_
          rintro en w3 ⟨rfl, hb3⟩
          have HB3 := Lib.hid (HB2.out.later hb3)
          clear hb3 x0 x1 x2 x3 u0 u1 u2 u3 y0 y1 y2 y3 y4 y5 y6 HB2 cd
          obtain ⟨⟨x0, x1, x2, x3⟩, ⟨u0, u1, u2, u3⟩, y0, y1, y2, y3, y4, y5, y6⟩ := hc _ HB3.out
          go_wp2_with fail
          with_reducible refine (cd2 _ HB3.out).mono ?_
          rintro en w4 ⟨rfl, hb4⟩
          have HB4 := Lib.hid (HB3.out.later hb4)
          clear hb4 x0 x1 x2 x3 u0 u1 u2 u3 y0 y1 y2 y3 y4 y5 y6 HB3 cd2
          obtain ⟨⟨x0, x1, x2, x3⟩, ⟨u0, u1, u2, u3⟩, y0, y1, y2, y3, y4, y5, y6⟩ := hc _ HB4.out
          go_wp2_with fail
          with_reducible refine (cp _ HB4.out).mono ?_
          rintro en w5 ⟨rfl, hb5⟩
          have HB5 := Lib.hid (HB4.out.later hb5)
          clear hb5 x0 x1 x2 x3 u0 u1 u2 u3 y0 y1 y2 y3 y4 y5 y6 HB4 cp
          obtain ⟨⟨x0, x1, x2, x3⟩, ⟨u0, u1, u2, u3⟩, y0, y1, y2, y3, y4, y5, y6⟩ := hc _ HB5.out
          go_wp2_with fail
          with_reducible refine (cq _ HB5.out).mono ?_
          rintro en w6 ⟨rfl, hb6⟩
          have HB6 := Lib.hid (HB5.out.later hb6)
          clear hb6 x0 x1 x2 x3 u0 u1 u2 u3 y0 y1 y2 y3 y4 y5 y6 HB5 cq
          obtain ⟨⟨x0, x1, x2, x3⟩, ⟨u0, u1, u2, u3⟩, y0, y1, y2, y3, y4, y5, y6⟩ := hc _ HB6.out
          have HA6 := Lib.hid (HB6.out.later ((Below.refl _ _).alloc (Nat.le_refl _) (.cells #[.int .i64 t.op, .string t.name, .string t.value, .slice A t.kids.length c, .int .i64 u.op, .string u.name, .string u.value, .slice B u.kids.length e] 24)))
          have HQ := Lib.hid (Box.new w6 24 #[.int .i64 t.op, .string t.name, .string t.value, .slice A t.kids.length c, .int .i64 u.op, .string u.name, .string u.value, .slice B u.kids.length e])
          obtain ⟨⟨_, _, _, _⟩, ⟨_, _, _, _⟩, z0, z1, z2, z3, z4, z5, z6⟩ := hc _ HA6.out
          go_wp2_with fail
          with_reducible refine (k1 _ _ HA6.out HQ.out).mono ?_
          rintro en w7 ⟨rfl, hb7⟩
          have HB7 := Lib.hid (HA6.out.later hb7)
          clear hb7 x0 x1 x2 x3 u0 u1 u2 u3 y0 y1 y2 y3 y4 y5 y6 z0 z1 z2 z3 z4 z5 z6 HA6 HB6 HQ k1
          obtain ⟨⟨x0, x1, x2, x3⟩, ⟨u0, u1, u2, u3⟩, y0, y1, y2, y3, y4, y5, y6⟩ := hc _ HB7.out
          have HA7 := Lib.hid (HB7.out.later ((Below.refl _ _).alloc (Nat.le_refl _) (.cells #[.int .i64 u.op, .string u.name, .string u.value, .slice B u.kids.length e, .int .i64 t.op, .string t.name, .string t.value, .slice A t.kids.length c] 24)))
          have HQ := Lib.hid (Box.new w7 24 #[.int .i64 u.op, .string u.name, .string u.value, .slice B u.kids.length e, .int .i64 t.op, .string t.name, .string t.value, .slice A t.kids.length c])
          obtain ⟨⟨_, _, _, _⟩, ⟨_, _, _, _⟩, z0, z1, z2, z3, z4, z5, z6⟩ := hc _ HA7.out
          go_wp2_with fail
          with_reducible refine (k2 _ _ HA7.out HQ.out).mono ?_
          rintro en w8 ⟨rfl, hb8⟩
          have HB8 := Lib.hid (HA7.out.later hb8)
          clear hb8 x0 x1 x2 x3 u0 u1 u2 u3 y0 y1 y2 y3 y4 y5 y6 z0 z1 z2 z3 z4 z5 z6 HA7 HB7 HQ k2
          obtain ⟨⟨x0, x1, x2, x3⟩, ⟨u0, u1, u2, u3⟩, y0, y1, y2, y3, y4, y5, y6⟩ := hc _ HB8.out
          have HA8 := Lib.hid (HB8.out.later ((Below.refl _ _).alloc (Nat.le_refl _) (.cells #[.int .i64 t.op, .string t.name, .string t.value, .slice A t.kids.length c] 24)))
          have HQ := Lib.hid (Box.new w8 24 #[.int .i64 t.op, .string t.name, .string t.value, .slice A t.kids.length c])
          obtain ⟨⟨_, _, _, _⟩, ⟨_, _, _, _⟩, z0, z1, z2, z3, z4, z5, z6⟩ := hc _ HA8.out
          go_wp2_with fail
          with_reducible refine (k3 _ _ HA8.out HQ.out).mono ?_
          rintro en w9 ⟨rfl, hb9⟩
          have HB9 := Lib.hid (HA8.out.later hb9)
          clear hb9 x0 x1 x2 x3 u0 u1 u2 u3 y0 y1 y2 y3 y4 y5 y6 z0 z1 z2 z3 z4 z5 z6 HA8 HB8 HQ k3
          obtain ⟨⟨x0, x1, x2, x3⟩, ⟨u0, u1, u2, u3⟩, y0, y1, y2, y3, y4, y5, y6⟩ := hc _ HB9.out
          go_wp2_with fail
          with_reducible refine (k0 _ HB9.out).mono ?_
          rintro en w10 ⟨rfl, hb10⟩
          have HB10 := Lib.hid (HB9.out.later hb10)
          clear hb10 x0 x1 x2 x3 u0 u1 u2 u3 y0 y1 y2 y3 y4 y5 y6 HB9 k0
          cases lv <;> cases lu
          all_goals go_wp2_with fail
          all_goals with_reducible refine (cl _ HB10.out.tabs).mono ?_
          all_goals rintro en w11 ⟨rfl, hb11⟩
          all_goals have hb := (HB10.out.later hb11).bel
          all_goals clear hb11 cl HB10
          all_goals go_wp2_with fail
          all_goals go_ret
          all_goals exact ⟨rfl, hb⟩
        · have hno := matchG_no h9
          rw [hno] at cq
          rw [matchG_is (matchG_ok h0).1 (matchG_ok h0).2] at cp
          clear hT hU hR hTb h0 h9 hno hx hy
          generalize sizeG t = sg at *
          generalize depthG t = dg at *
          generalize sizeG u = sg2 at *
          generalize depthG u = dg2 at *
          generalize letsG r 6 t = lv at *
          unfold exV exC recV recC Yes Told at *
          go_enter Tryd.func5, Tryd.ntmps5
          go_wp2_with fail
          with_reducible refine (cs _ HB.out).mono ?_
          rintro en w1 ⟨rfl, hb1⟩
          have HB1 := Lib.hid (HB.out.later hb1)
          clear hb1 x0 x1 x2 x3 u0 u1 u2 u3 y0 y1 y2 y3 y4 y5 y6 HB cs
          obtain ⟨⟨x0, x1, x2, x3⟩, ⟨u0, u1, u2, u3⟩, y0, y1, y2, y3, y4, y5, y6⟩ := hc _ HB1.out
          go_wp2_with fail
          with_reducible refine (cs2 _ HB1.out).mono ?_
          rintro en w2 ⟨rfl, hb2⟩
          have HB2 := Lib.hid (HB1.out.later hb2)
          clear hb2 x0 x1 x2 x3 u0 u1 u2 u3 y0 y1 y2 y3 y4 y5 y6 HB1 cs2
          obtain ⟨⟨x0, x1, x2, x3⟩, ⟨u0, u1, u2, u3⟩, y0, y1, y2, y3, y4, y5, y6⟩ := hc _ HB2.out
          go_wp2_with fail
          with_reducible refine (cd _ HB2.out).mono ?_
          rintro en w3 ⟨rfl, hb3⟩
          have HB3 := Lib.hid (HB2.out.later hb3)
          clear hb3 x0 x1 x2 x3 u0 u1 u2 u3 y0 y1 y2 y3 y4 y5 y6 HB2 cd
          obtain ⟨⟨x0, x1, x2, x3⟩, ⟨u0, u1, u2, u3⟩, y0, y1, y2, y3, y4, y5, y6⟩ := hc _ HB3.out
          go_wp2_with fail
          with_reducible refine (cd2 _ HB3.out).mono ?_
          rintro en w4 ⟨rfl, hb4⟩
          have HB4 := Lib.hid (HB3.out.later hb4)
          clear hb4 x0 x1 x2 x3 u0 u1 u2 u3 y0 y1 y2 y3 y4 y5 y6 HB3 cd2
          obtain ⟨⟨x0, x1, x2, x3⟩, ⟨u0, u1, u2, u3⟩, y0, y1, y2, y3, y4, y5, y6⟩ := hc _ HB4.out
          go_wp2_with fail
          with_reducible refine (cp _ HB4.out).mono ?_
          rintro en w5 ⟨rfl, hb5⟩
          have HB5 := Lib.hid (HB4.out.later hb5)
          clear hb5 x0 x1 x2 x3 u0 u1 u2 u3 y0 y1 y2 y3 y4 y5 y6 HB4 cp
          obtain ⟨⟨x0, x1, x2, x3⟩, ⟨u0, u1, u2, u3⟩, y0, y1, y2, y3, y4, y5, y6⟩ := hc _ HB5.out
          go_wp2_with fail
          with_reducible refine (cq _ HB5.out).mono ?_
          rintro en w6 ⟨rfl, hb6⟩
          have HB6 := Lib.hid (HB5.out.later hb6)
          clear hb6 x0 x1 x2 x3 u0 u1 u2 u3 y0 y1 y2 y3 y4 y5 y6 HB5 cq
          go_wp2_with fail
          with_reducible refine (cl _ HB6.out.tabs).mono ?_
          rintro en w7 ⟨rfl, hb7⟩
          have hb := (HB6.out.later hb7).bel
          clear hb7 cl HB6
          go_wp2_with fail
          go_ret
          exact ⟨rfl, hb⟩
      · have hno := matchG_no h0
        rw [hno] at cp
        clear hT hU hR hTb h0 hno hx hy
        generalize sizeG t = sg at *
        generalize depthG t = dg at *
        generalize sizeG u = sg2 at *
        generalize depthG u = dg2 at *
        generalize matchG u r = mu at *
        obtain ⟨mu1, mu2⟩ := mu
        unfold exV exC recV recC Yes Told at *
        go_enter Tryd.func5, Tryd.ntmps5
        go_wp2_with fail
        with_reducible refine (cs _ HB.out).mono ?_
        rintro en w1 ⟨rfl, hb1⟩
        have HB1 := Lib.hid (HB.out.later hb1)
        clear hb1 x0 x1 x2 x3 u0 u1 u2 u3 y0 y1 y2 y3 y4 y5 y6 HB cs
        obtain ⟨⟨x0, x1, x2, x3⟩, ⟨u0, u1, u2, u3⟩, y0, y1, y2, y3, y4, y5, y6⟩ := hc _ HB1.out
        go_wp2_with fail
        with_reducible refine (cs2 _ HB1.out).mono ?_
        rintro en w2 ⟨rfl, hb2⟩
        have HB2 := Lib.hid (HB1.out.later hb2)
        clear hb2 x0 x1 x2 x3 u0 u1 u2 u3 y0 y1 y2 y3 y4 y5 y6 HB1 cs2
        obtain ⟨⟨x0, x1, x2, x3⟩, ⟨u0, u1, u2, u3⟩, y0, y1, y2, y3, y4, y5, y6⟩ := hc _ HB2.out
        go_wp2_with fail
        with_reducible refine (cd _ HB2.out).mono ?_
        rintro en w3 ⟨rfl, hb3⟩
        have HB3 := Lib.hid (HB2.out.later hb3)
        clear hb3 x0 x1 x2 x3 u0 u1 u2 u3 y0 y1 y2 y3 y4 y5 y6 HB2 cd
        obtain ⟨⟨x0, x1, x2, x3⟩, ⟨u0, u1, u2, u3⟩, y0, y1, y2, y3, y4, y5, y6⟩ := hc _ HB3.out
        go_wp2_with fail
        with_reducible refine (cd2 _ HB3.out).mono ?_
        rintro en w4 ⟨rfl, hb4⟩
        have HB4 := Lib.hid (HB3.out.later hb4)
        clear hb4 x0 x1 x2 x3 u0 u1 u2 u3 y0 y1 y2 y3 y4 y5 y6 HB3 cd2
        obtain ⟨⟨x0, x1, x2, x3⟩, ⟨u0, u1, u2, u3⟩, y0, y1, y2, y3, y4, y5, y6⟩ := hc _ HB4.out
        go_wp2_with fail
        with_reducible refine (cp _ HB4.out).mono ?_
        rintro en w5 ⟨rfl, hb5⟩
        have HB5 := Lib.hid (HB4.out.later hb5)
        clear hb5 x0 x1 x2 x3 u0 u1 u2 u3 y0 y1 y2 y3 y4 y5 y6 HB4 cp
        obtain ⟨⟨x0, x1, x2, x3⟩, ⟨u0, u1, u2, u3⟩, y0, y1, y2, y3, y4, y5, y6⟩ := hc _ HB5.out
        go_wp2_with fail
        with_reducible refine (cq _ HB5.out).mono ?_
        rintro en w6 ⟨rfl, hb6⟩
        have HB6 := Lib.hid (HB5.out.later hb6)
        clear hb6 x0 x1 x2 x3 u0 u1 u2 u3 y0 y1 y2 y3 y4 y5 y6 HB5 cq
        go_wp2_with fail
        with_reducible refine (cl _ HB6.out.tabs).mono ?_
        rintro en w7 ⟨rfl, hb7⟩
        have hb := (HB6.out.later hb7).bel
        clear hb7 cl HB6
        go_wp2_with fail
        go_ret
        exact ⟨rfl, hb⟩
    · clear hT hU hR hTb hx hy cp cq
      generalize sizeG t = sg at *
      generalize depthG t = dg at *
      generalize sizeG u = sg2 at *
      generalize depthG u = dg2 at *
      unfold exV exC recV recC Yes at *
      go_enter Tryd.func5, Tryd.ntmps5
      go_wp2_with fail
      with_reducible refine (cs _ HB.out).mono ?_
      rintro en w1 ⟨rfl, hb1⟩
      have HB1 := Lib.hid (HB.out.later hb1)
      clear hb1 x0 x1 x2 x3 u0 u1 u2 u3 y0 y1 y2 y3 y4 y5 y6 HB cs
      obtain ⟨⟨x0, x1, x2, x3⟩, ⟨u0, u1, u2, u3⟩, y0, y1, y2, y3, y4, y5, y6⟩ := hc _ HB1.out
      go_wp2_with fail
      with_reducible refine (cs2 _ HB1.out).mono ?_
      rintro en w2 ⟨rfl, hb2⟩
      have HB2 := Lib.hid (HB1.out.later hb2)
      clear hb2 x0 x1 x2 x3 u0 u1 u2 u3 y0 y1 y2 y3 y4 y5 y6 HB1 cs2
      obtain ⟨⟨x0, x1, x2, x3⟩, ⟨u0, u1, u2, u3⟩, y0, y1, y2, y3, y4, y5, y6⟩ := hc _ HB2.out
      go_wp2_with fail
      with_reducible refine (cd _ HB2.out).mono ?_
      rintro en w3 ⟨rfl, hb3⟩
      have HB3 := Lib.hid (HB2.out.later hb3)
      clear hb3 x0 x1 x2 x3 u0 u1 u2 u3 y0 y1 y2 y3 y4 y5 y6 HB2 cd
      obtain ⟨⟨x0, x1, x2, x3⟩, ⟨u0, u1, u2, u3⟩, y0, y1, y2, y3, y4, y5, y6⟩ := hc _ HB3.out
      go_wp2_with fail
      with_reducible refine (cd2 _ HB3.out).mono ?_
      rintro en w4 ⟨rfl, hb4⟩
      have HB4 := Lib.hid (HB3.out.later hb4)
      clear hb4 x0 x1 x2 x3 u0 u1 u2 u3 y0 y1 y2 y3 y4 y5 y6 HB3 cd2
      obtain ⟨⟨x0, x1, x2, x3⟩, ⟨u0, u1, u2, u3⟩, y0, y1, y2, y3, y4, y5, y6⟩ := hc _ HB4.out
      go_wp2_with fail
      with_reducible refine (cl _ HB4.out.tabs).mono ?_
      rintro en w5 ⟨rfl, hb5⟩
      have hb := (HB4.out.later hb5).bel
      clear hb5 cl HB4
      go_wp2_with fail
      go_ret
      exact ⟨rfl, hb⟩
  · clear hT hU hR hTb 
    generalize sizeG t = sg at *
    generalize depthG t = dg at *
    generalize sizeG u = sg2 at *
    generalize depthG u = dg2 at *
    unfold exV exC recV recC Yes at *
    by_cases h1 : sg ≤ 10
    · by_cases h2 : sg2 ≤ 10
      · by_cases h3 : dg ≤ 4
        · have h4 : ¬ dg2 ≤ 4 := fun h => hm ⟨h1, h2, h3, h⟩
          clear hm
          go_enter Tryd.func5, Tryd.ntmps5
          go_wp2_with fail
          with_reducible refine (cs _ HB.out).mono ?_
          rintro en w1 ⟨rfl, hb1⟩
          have HB1 := Lib.hid (HB.out.later hb1)
          clear hb1 x0 x1 x2 x3 u0 u1 u2 u3 y0 y1 y2 y3 y4 y5 y6 HB cs
          obtain ⟨⟨x0, x1, x2, x3⟩, ⟨u0, u1, u2, u3⟩, y0, y1, y2, y3, y4, y5, y6⟩ := hc _ HB1.out
          go_wp2_with fail
          with_reducible refine (cs2 _ HB1.out).mono ?_
          rintro en w2 ⟨rfl, hb2⟩
          have HB2 := Lib.hid (HB1.out.later hb2)
          clear hb2 x0 x1 x2 x3 u0 u1 u2 u3 y0 y1 y2 y3 y4 y5 y6 HB1 cs2
          obtain ⟨⟨x0, x1, x2, x3⟩, ⟨u0, u1, u2, u3⟩, y0, y1, y2, y3, y4, y5, y6⟩ := hc _ HB2.out
          go_wp2_with fail
          with_reducible refine (cd _ HB2.out).mono ?_
          rintro en w3 ⟨rfl, hb3⟩
          have HB3 := Lib.hid (HB2.out.later hb3)
          clear hb3 x0 x1 x2 x3 u0 u1 u2 u3 y0 y1 y2 y3 y4 y5 y6 HB2 cd
          obtain ⟨⟨x0, x1, x2, x3⟩, ⟨u0, u1, u2, u3⟩, y0, y1, y2, y3, y4, y5, y6⟩ := hc _ HB3.out
          go_wp2_with fail
          with_reducible refine (cd2 _ HB3.out).mono ?_
          rintro en w4 ⟨rfl, hb4⟩
          have HB4 := Lib.hid (HB3.out.later hb4)
          clear hb4 x0 x1 x2 x3 u0 u1 u2 u3 y0 y1 y2 y3 y4 y5 y6 HB3 cd2
          obtain ⟨⟨x0, x1, x2, x3⟩, ⟨u0, u1, u2, u3⟩, y0, y1, y2, y3, y4, y5, y6⟩ := hc _ HB4.out
          go_wp2_with fail
          with_reducible refine (cl _ HB4.out.tabs).mono ?_
          rintro en w5 ⟨rfl, hb5⟩
          have hb := (HB4.out.later hb5).bel
          clear hb5 cl HB4
          go_wp2_with fail
          go_ret
          exact ⟨rfl, hb⟩
        · clear hm cd2
          go_enter Tryd.func5, Tryd.ntmps5
          go_wp2_with fail
          with_reducible refine (cs _ HB.out).mono ?_
          rintro en w1 ⟨rfl, hb1⟩
          have HB1 := Lib.hid (HB.out.later hb1)
          clear hb1 x0 x1 x2 x3 u0 u1 u2 u3 y0 y1 y2 y3 y4 y5 y6 HB cs
          obtain ⟨⟨x0, x1, x2, x3⟩, ⟨u0, u1, u2, u3⟩, y0, y1, y2, y3, y4, y5, y6⟩ := hc _ HB1.out
          go_wp2_with fail
          with_reducible refine (cs2 _ HB1.out).mono ?_
          rintro en w2 ⟨rfl, hb2⟩
          have HB2 := Lib.hid (HB1.out.later hb2)
          clear hb2 x0 x1 x2 x3 u0 u1 u2 u3 y0 y1 y2 y3 y4 y5 y6 HB1 cs2
          obtain ⟨⟨x0, x1, x2, x3⟩, ⟨u0, u1, u2, u3⟩, y0, y1, y2, y3, y4, y5, y6⟩ := hc _ HB2.out
          go_wp2_with fail
          with_reducible refine (cd _ HB2.out).mono ?_
          rintro en w3 ⟨rfl, hb3⟩
          have HB3 := Lib.hid (HB2.out.later hb3)
          clear hb3 x0 x1 x2 x3 u0 u1 u2 u3 y0 y1 y2 y3 y4 y5 y6 HB2 cd
          go_wp2_with fail
          with_reducible refine (cl _ HB3.out.tabs).mono ?_
          rintro en w4 ⟨rfl, hb4⟩
          have hb := (HB3.out.later hb4).bel
          clear hb4 cl HB3
          go_wp2_with fail
          go_ret
          exact ⟨rfl, hb⟩
      · clear hm cd cd2
        go_enter Tryd.func5, Tryd.ntmps5
        go_wp2_with fail
        with_reducible refine (cs _ HB.out).mono ?_
        rintro en w1 ⟨rfl, hb1⟩
        have HB1 := Lib.hid (HB.out.later hb1)
        clear hb1 x0 x1 x2 x3 u0 u1 u2 u3 y0 y1 y2 y3 y4 y5 y6 HB cs
        obtain ⟨⟨x0, x1, x2, x3⟩, ⟨u0, u1, u2, u3⟩, y0, y1, y2, y3, y4, y5, y6⟩ := hc _ HB1.out
        go_wp2_with fail
        with_reducible refine (cs2 _ HB1.out).mono ?_
        rintro en w2 ⟨rfl, hb2⟩
        have HB2 := Lib.hid (HB1.out.later hb2)
        clear hb2 x0 x1 x2 x3 u0 u1 u2 u3 y0 y1 y2 y3 y4 y5 y6 HB1 cs2
        go_wp2_with fail
        with_reducible refine (cl _ HB2.out.tabs).mono ?_
        rintro en w3 ⟨rfl, hb3⟩
        have hb := (HB2.out.later hb3).bel
        clear hb3 cl HB2
        go_wp2_with fail
        go_ret
        exact ⟨rfl, hb⟩
    · clear hm cd cd2 cs2
      go_enter Tryd.func5, Tryd.ntmps5
      go_wp2_with fail
      with_reducible refine (cs _ HB.out).mono ?_
      rintro en w1 ⟨rfl, hb1⟩
      have HB1 := Lib.hid (HB.out.later hb1)
      clear hb1 x0 x1 x2 x3 u0 u1 u2 u3 y0 y1 y2 y3 y4 y5 y6 HB cs
      go_wp2_with fail
      with_reducible refine (cl _ HB1.out.tabs).mono ?_
      rintro en w2 ⟨rfl, hb2⟩
      have hb := (HB1.out.later hb2).bel
      clear hb2 cl HB1
      go_wp2_with fail
      go_ret
      exact ⟨rfl, hb⟩
end Go.Proofs.YtmnmgbbdjpfonaaDoor
