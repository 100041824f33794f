/- match: the law MatchAll, walked. Condition: the tables of utf8. -/
import Derived.Test.YtmnmgbbdjpfonaaDoorMtNd
namespace Go.Proofs.YtmnmgbbdjpfonaaDoor
open Go.RowKit
set_option linter.unusedVariables false
set_option maxHeartbeats 4000000 in
set_option maxRecDepth 100000 in
theorem matchAll_walk (t : Tr) (A : Option Addr) (c n : Nat) (r : Rec) (Ar : Option Addr) (cr : Nat) (W : World) (hT : TrAt (fun _ => True) W n A t) (hR : RIn W r Ar cr) (hS : RSmall r) (hTb : Tabs W) :
    Calls Tryd.prog 8 #[exV t A c, recV r Ar cr] W (Yes W) := by
  have cs := fun w (h : Both W W.heap.size (W.heap.size + 1) t A c r Ar cr n w) => rSize_c (fun _ => True) n t A c w h.tree
  have cd := fun w (h : Both W W.heap.size (W.heap.size + 1) t A c r Ar cr n w) => rDepth_c (fun _ => True) n t A c w h.tree
  have cl := fun w (h : Tabs w) => live8_c w h
  have HB := Lib.hid (Both.start (c := c) hT hR hTb)
  obtain ⟨⟨x0, x1, x2, x3⟩, y0, y1, y2, y3, y4, y5, y6⟩ := HB.out.cells
  have hc : ∀ w, Both W W.heap.size (W.heap.size + 1) t A c r Ar cr n w → _ := fun w h => h.cells
  by_cases hm : sizeG t ≤ 10 ∧ depthG t ≤ 4
  · have hx : OkT 3 10 t := OkT.of (by omega) (by omega) (by decide) (by decide)
    obtain ⟨hm1, hm2⟩ := hm
    have cp := fun w (h : Both W W.heap.size (W.heap.size + 1) t A c r Ar cr n w) => pmatch_c t A c r Ar cr w (trAt_to h.tree (depD_le hx.dep (by decide))) h.rin h.tabs
    have h3 : TrAt (fun _ => True) W n A t → TrAt (fun _ => True) W 3 A t := fun h => trAt_to h hx.dep
    by_cases hr : (r.heads.length : Int) ≤ 20
    · by_cases h0 : (matchG t r).2 = 0
      · obtain ⟨g1, g2⟩ := matchG_ok h0
        have gp := checkG_ok g1
        have k0 : ∀ w (h : Both W W.heap.size (W.heap.size + 1) t A c r Ar cr n w), Calls Tryd.prog 11 #[.agg #[.int .i64 0, .string ⟨#[]⟩, .string ⟨#[]⟩, .slice none 0 0], recV r Ar cr] w (Good w (Told (true, 0))) := fun w h => by
          have := pmatch_c N0 none 0 r Ar cr w (N0_at w none 19) h.rin h.tabs
          rw [matchG_is (OkT.zero.ok (by decide) (by decide) rfl) g2, zero_lets] at this
          exact this
        have k1 : ∀ w q (h : Both W W.heap.size (W.heap.size + 1) t A c r Ar cr n w) (hq : Box w q 24 #[.int .i64 0, .string ⟨#[]⟩, .string ⟨#[]⟩, .slice none 0 0]), Calls Tryd.prog 11 #[.agg #[.int .i64 3, .string ⟨#[]⟩, .string ⟨#[]⟩, .slice (some ⟨q, 0, none⟩) 1 1], recV r Ar cr] w (Good w (Told (false, 0))) := fun w q h hq => by
          have := pmatch_c (N1 N0) (some ⟨q, 0, none⟩) 1 r Ar cr w ((N1_at (A := none) (c := 0) hq (N0_at w none 0)).le (by decide)) h.rin h.tabs
          rw [matchG_is (OkT.zero.one.ok (by decide) (by decide) (by rw [one_parts OkT.zero (by decide)]; rfl)) g2, not_lets r OkT.zero (by decide), zero_lets] at this
          exact this
        have k2 : ∀ w q (h : Both W W.heap.size (W.heap.size + 1) t A c r Ar cr n w) (hq : Box w q 24 #[.int .i64 t.op, .string t.name, .string t.value, .slice A t.kids.length c, .int .i64 0, .string ⟨#[]⟩, .string ⟨#[]⟩, .slice none 0 0]), Calls Tryd.prog 11 #[.agg #[.int .i64 2, .string ⟨#[]⟩, .string ⟨#[]⟩, .slice (some ⟨q, 0, none⟩) 2 2], recV r Ar cr] w (Good w (Told (true, 0))) := fun w q h hq => by
          have z := OkT.zero.le (k' := 3) (s' := 1) (by decide) (by decide)
          have := pmatch_c (N2 2 t N0) (some ⟨q, 0, none⟩) 2 r Ar cr w ((N2_at (y := N0) (B := none) (e := 0) 2 (.inr rfl) hq (trAt_to h.tree hx.dep) (N0_at w none 3)).le (by decide)) h.rin h.tabs
          rw [matchG_is ((hx.two 2 z).ok (by decide) (by decide) (by rw [two_parts (.inr rfl) hx z (by decide), gp]; rfl)) g2, or_lets r hx z (by decide), zero_lets, Bool.or_true] at this
          exact this
        have k3 : ∀ w q (h : Both W W.heap.size (W.heap.size + 1) t A c r Ar cr n w) (hq : Box w q 24 #[.int .i64 0, .string ⟨#[]⟩, .string ⟨#[]⟩, .slice none 0 0, .int .i64 t.op, .string t.name, .string t.value, .slice A t.kids.length c]), Calls Tryd.prog 11 #[.agg #[.int .i64 1, .string ⟨#[]⟩, .string ⟨#[]⟩, .slice (some ⟨q, 0, none⟩) 2 2], recV r Ar cr] w (Good w (Told (letsG r 6 t, 0))) := fun w q h hq => by
          have z := OkT.zero.le (k' := 3) (s' := 1) (by decide) (by decide)
          have := pmatch_c (N2 1 N0 t) (some ⟨q, 0, none⟩) 2 r Ar cr w ((N2_at (x := N0) (A := none) (c := 0) 1 (.inl rfl) hq (N0_at w none 3) (trAt_to h.tree hx.dep)).le (by decide)) h.rin h.tabs
          rw [matchG_is ((z.two 1 hx).ok (by decide) (by decide) (by rw [two_parts (.inl rfl) z hx (by decide), gp]; rfl)) g2, and_lets r z hx (by decide), zero_lets, Bool.true_and] at this
          exact this
        rw [matchG_is g1 g2] at cp
        clear hT hR hTb h0 g1 g2 gp h3 hx
        generalize letsG r 6 t = lv at *
        generalize sizeG t = sg at *
        generalize depthG t = dg at *
        unfold exV exC recV recC Yes Told at *
        go_enter Tryd.func8, Tryd.ntmps8
        go_wp2_with fail
        with_reducible refine (cs _ HB.out).mono ?_
        rintro en w1 ⟨rfl, hb1⟩
        have HB1 := Lib.hid (HB.out.later hb1)
        clear hb1 x0 x1 x2 x3 y0 y1 y2 y3 y4 y5 y6 HB cs
        obtain ⟨⟨x0, x1, x2, x3⟩, y0, y1, y2, y3, y4, y5, y6⟩ := hc _ HB1.out
        go_wp2_with fail
        with_reducible refine (cd _ HB1.out).mono ?_
        rintro en w2 ⟨rfl, hb2⟩
        have HB2 := Lib.hid (HB1.out.later hb2)
        clear hb2 x0 x1 x2 x3 y0 y1 y2 y3 y4 y5 y6 HB1 cd
        obtain ⟨⟨x0, x1, x2, x3⟩, y0, y1, y2, y3, y4, y5, y6⟩ := hc _ HB2.out
        go_wp2_with fail
        with_reducible refine (cp _ HB2.out).mono ?_
        rintro en w3 ⟨rfl, hb3⟩
        have HB3 := Lib.hid (HB2.out.later hb3)
        clear hb3 x0 x1 x2 x3 y0 y1 y2 y3 y4 y5 y6 HB2 cp
        obtain ⟨⟨x0, x1, x2, x3⟩, y0, y1, y2, y3, y4, y5, y6⟩ := hc _ HB3.out
        go_wp2_with fail
        with_reducible refine (k0 _ HB3.out).mono ?_
        rintro en w4 ⟨rfl, hb4⟩
        have HB4 := Lib.hid (HB3.out.later hb4)
        clear hb4 x0 x1 x2 x3 y0 y1 y2 y3 y4 y5 y6 HB3 k0
        obtain ⟨⟨x0, x1, x2, x3⟩, y0, y1, y2, y3, y4, y5, y6⟩ := hc _ HB4.out
        have HA4 := Lib.hid (HB4.out.later ((Below.refl _ _).alloc (Nat.le_refl _) (.cells #[.int .i64 0, .string ⟨#[]⟩, .string ⟨#[]⟩, .slice none 0 0] 24)))
        have HQ := Lib.hid (Box.new w4 24 #[.int .i64 0, .string ⟨#[]⟩, .string ⟨#[]⟩, .slice none 0 0])
        obtain ⟨⟨_, _, _, _⟩, z0, z1, z2, z3, z4, z5, z6⟩ := hc _ HA4.out
        go_wp2_with fail
        with_reducible refine (k1 _ _ HA4.out HQ.out).mono ?_
        rintro en w5 ⟨rfl, hb5⟩
        have HB5 := Lib.hid (HA4.out.later hb5)
        clear hb5 x0 x1 x2 x3 y0 y1 y2 y3 y4 y5 y6 z0 z1 z2 z3 z4 z5 z6 HA4 HB4 HQ k1
        obtain ⟨⟨x0, x1, x2, x3⟩, y0, y1, y2, y3, y4, y5, y6⟩ := hc _ HB5.out
        have HA5 := Lib.hid (HB5.out.later ((Below.refl _ _).alloc (Nat.le_refl _) (.cells #[.int .i64 t.op, .string t.name, .string t.value, .slice A t.kids.length c, .int .i64 0, .string ⟨#[]⟩, .string ⟨#[]⟩, .slice none 0 0] 24)))
        have HQ := Lib.hid (Box.new w5 24 #[.int .i64 t.op, .string t.name, .string t.value, .slice A t.kids.length c, .int .i64 0, .string ⟨#[]⟩, .string ⟨#[]⟩, .slice none 0 0])
        obtain ⟨⟨_, _, _, _⟩, z0, z1, z2, z3, z4, z5, z6⟩ := hc _ HA5.out
        go_wp2_with fail
        with_reducible refine (k2 _ _ HA5.out HQ.out).mono ?_
        rintro en w6 ⟨rfl, hb6⟩
        have HB6 := Lib.hid (HA5.out.later hb6)
        clear hb6 x0 x1 x2 x3 y0 y1 y2 y3 y4 y5 y6 z0 z1 z2 z3 z4 z5 z6 HA5 HB5 HQ k2
        obtain ⟨⟨x0, x1, x2, x3⟩, y0, y1, y2, y3, y4, y5, y6⟩ := hc _ HB6.out
        have HA6 := Lib.hid (HB6.out.later ((Below.refl _ _).alloc (Nat.le_refl _) (.cells #[.int .i64 0, .string ⟨#[]⟩, .string ⟨#[]⟩, .slice none 0 0, .int .i64 t.op, .string t.name, .string t.value, .slice A t.kids.length c] 24)))
        have HQ := Lib.hid (Box.new w6 24 #[.int .i64 0, .string ⟨#[]⟩, .string ⟨#[]⟩, .slice none 0 0, .int .i64 t.op, .string t.name, .string t.value, .slice A t.kids.length c])
        obtain ⟨⟨_, _, _, _⟩, z0, z1, z2, z3, z4, z5, z6⟩ := hc _ HA6.out
        go_wp2_with fail
        with_reducible refine (k3 _ _ HA6.out HQ.out).mono ?_
        rintro en w7 ⟨rfl, hb7⟩
        have HB7 := Lib.hid (HA6.out.later hb7)
        clear hb7 x0 x1 x2 x3 y0 y1 y2 y3 y4 y5 y6 z0 z1 z2 z3 z4 z5 z6 HA6 HB6 HQ k3
        cases lv
        all_goals go_wp2_with fail
        all_goals with_reducible refine (cl _ HB7.out.tabs).mono ?_
        all_goals rintro en w8 ⟨rfl, hb8⟩
        all_goals have hb := (HB7.out.later hb8).bel
        all_goals clear hb8 cl HB7
        all_goals go_wp2_with fail
        all_goals go_ret
        all_goals exact ⟨rfl, hb⟩
      · have hno := matchG_no h0
        rw [hno] at cp
        clear hT hR hTb h0 hno h3 hx
        generalize sizeG t = sg at *
        generalize depthG t = dg at *
        unfold exV exC recV recC Yes Told at *
        go_enter Tryd.func8, Tryd.ntmps8
        go_wp2_with fail
        with_reducible refine (cs _ HB.out).mono ?_
        rintro en w1 ⟨rfl, hb1⟩
        have HB1 := Lib.hid (HB.out.later hb1)
        clear hb1 x0 x1 x2 x3 y0 y1 y2 y3 y4 y5 y6 HB cs
        obtain ⟨⟨x0, x1, x2, x3⟩, y0, y1, y2, y3, y4, y5, y6⟩ := hc _ HB1.out
        go_wp2_with fail
        with_reducible refine (cd _ HB1.out).mono ?_
        rintro en w2 ⟨rfl, hb2⟩
        have HB2 := Lib.hid (HB1.out.later hb2)
        clear hb2 x0 x1 x2 x3 y0 y1 y2 y3 y4 y5 y6 HB1 cd
        obtain ⟨⟨x0, x1, x2, x3⟩, y0, y1, y2, y3, y4, y5, y6⟩ := hc _ HB2.out
        go_wp2_with fail
        with_reducible refine (cp _ HB2.out).mono ?_
        rintro en w3 ⟨rfl, hb3⟩
        have HB3 := Lib.hid (HB2.out.later hb3)
        clear hb3 x0 x1 x2 x3 y0 y1 y2 y3 y4 y5 y6 HB2 cp
        go_wp2_with fail
        with_reducible refine (cl _ HB3.out.tabs).mono ?_
        rintro en w4 ⟨rfl, hb4⟩
        have hb := (HB3.out.later hb4).bel
        clear hb4 cl HB3
        go_wp2_with fail
        go_ret
        exact ⟨rfl, hb⟩
    · clear hT hR hTb h3 hx cp
      generalize sizeG t = sg at *
      generalize depthG t = dg at *
      unfold exV exC recV recC Yes at *
      go_enter Tryd.func8, Tryd.ntmps8
      go_wp2_with fail
      with_reducible refine (cs _ HB.out).mono ?_
      rintro en w1 ⟨rfl, hb1⟩
      have HB1 := Lib.hid (HB.out.later hb1)
      clear hb1 x0 x1 x2 x3 y0 y1 y2 y3 y4 y5 y6 HB cs
      obtain ⟨⟨x0, x1, x2, x3⟩, y0, y1, y2, y3, y4, y5, y6⟩ := hc _ HB1.out
      go_wp2_with fail
      with_reducible refine (cd _ HB1.out).mono ?_
      rintro en w2 ⟨rfl, hb2⟩
      have HB2 := Lib.hid (HB1.out.later hb2)
      clear hb2 x0 x1 x2 x3 y0 y1 y2 y3 y4 y5 y6 HB1 cd
      obtain ⟨⟨x0, x1, x2, x3⟩, y0, y1, y2, y3, y4, y5, y6⟩ := hc _ HB2.out
      go_wp2_with fail
      with_reducible refine (cl _ HB2.out.tabs).mono ?_
      rintro en w3 ⟨rfl, hb3⟩
      have hb := (HB2.out.later hb3).bel
      clear hb3 cl HB2
      go_wp2_with fail
      go_ret
      exact ⟨rfl, hb⟩
  · clear hT hR hTb
    generalize sizeG t = sg at *
    generalize depthG t = dg at *
    unfold exV exC recV recC Yes at *
    by_cases h10 : sg ≤ 10
    · have h4 : ¬ dg ≤ 4 := fun h => hm ⟨h10, h⟩
      clear hm
      go_enter Tryd.func8, Tryd.ntmps8
      go_wp2_with fail
      with_reducible refine (cs _ HB.out).mono ?_
      rintro en w1 ⟨rfl, hb1⟩
      have HB1 := Lib.hid (HB.out.later hb1)
      clear hb1 x0 x1 x2 x3 y0 y1 y2 y3 y4 y5 y6 HB cs
      obtain ⟨⟨x0, x1, x2, x3⟩, y0, y1, y2, y3, y4, y5, y6⟩ := hc _ HB1.out
      go_wp2_with fail
      with_reducible refine (cd _ HB1.out).mono ?_
      rintro en w2 ⟨rfl, hb2⟩
      have HB2 := Lib.hid (HB1.out.later hb2)
      clear hb2 x0 x1 x2 x3 y0 y1 y2 y3 y4 y5 y6 HB1 cd
      obtain ⟨⟨x0, x1, x2, x3⟩, y0, y1, y2, y3, y4, y5, y6⟩ := hc _ HB2.out
      go_wp2_with fail
      with_reducible refine (cl _ HB2.out.tabs).mono ?_
      rintro en w3 ⟨rfl, hb3⟩
      have hb := (HB2.out.later hb3).bel
      clear hb3 cl HB2
      go_wp2_with fail
      go_ret
      exact ⟨rfl, hb⟩
    · clear hm cd
      go_enter Tryd.func8, Tryd.ntmps8
      go_wp2_with fail
      with_reducible refine (cs _ HB.out).mono ?_
      rintro en w1 ⟨rfl, hb1⟩
      have HB1 := Lib.hid (HB.out.later hb1)
      clear hb1 x0 x1 x2 x3 y0 y1 y2 y3 y4 y5 y6 HB cs
      go_wp2_with fail
      with_reducible refine (cl _ HB1.out.tabs).mono ?_
      rintro en w2 ⟨rfl, hb2⟩
      have hb := (HB1.out.later hb2).bel
      clear hb2 cl HB1
      go_wp2_with fail
      go_ret
      exact ⟨rfl, hb⟩
end Go.Proofs.YtmnmgbbdjpfonaaDoor
