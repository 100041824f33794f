/- match: the law MatchTurned, walked. Condition: the tables of utf8. -/
import Derived.Test.YtmnmgbbdjpfonaaDoorMtB3
namespace Go.Proofs.YtmnmgbbdjpfonaaDoor
open Go.RowKit
set_option linter.unusedVariables false
/-- Not of each of two filters, in memory. -/
structure Nn (q : Nat) (t : Tr) (A : Option Addr) (c : Nat) (u : Tr) (B : Option Addr) (e : Nat) (w : World) : Prop where
  b1 : Box w q 24 (exC t A c)
  b2 : Box w (q + 1) 24 #[.int .i64 3, .string ⟨#[]⟩, .string ⟨#[]⟩, .slice (some ⟨q, 0, none⟩) 1 1]
  b3 : Box w (q + 1 + 1) 24 (exC u B e)
  b4 : Box w (q + 1 + 1 + 1) 24 #[.int .i64 3, .string ⟨#[]⟩, .string ⟨#[]⟩, .slice (some ⟨q + 1 + 1, 0, none⟩) 1 1]
theorem Nn.later {q : Nat} {t u : Tr} {A B : Option Addr} {c e : Nat} {w w' : World} (h : Nn q t A c u B e w) (hb : Below w.heap.size w w') : Nn q t A c u B e w' := ⟨h.b1.later hb, h.b2.later hb, h.b3.later hb, h.b4.later hb⟩
theorem Nn.start (t : Tr) (A : Option Addr) (c : Nat) (u : Tr) (B : Option Addr) (e : Nat) (w : World) : Nn w.heap.size t A c u B e ((((w.alloc (.cells (exC t A c) 24)).alloc (.cells #[.int .i64 3, .string ⟨#[]⟩, .string ⟨#[]⟩, .slice (some ⟨w.heap.size, 0, none⟩) 1 1] 24)).alloc (.cells (exC u B e) 24)).alloc (.cells #[.int .i64 3, .string ⟨#[]⟩, .string ⟨#[]⟩, .slice (some ⟨w.heap.size + 1 + 1, 0, none⟩) 1 1] 24)) := by
  refine ⟨(((Box.new _ _ _).alloc _).alloc _).alloc _, ?_, ?_, ?_⟩
  · have h := Box.new (w.alloc (.cells (exC t A c) 24)) 24 #[.int .i64 3, .string ⟨#[]⟩, .string ⟨#[]⟩, .slice (some ⟨w.heap.size, 0, none⟩) 1 1]
    rw [World.size_alloc] at h
    exact (h.alloc _).alloc _
  · have h := Box.new ((w.alloc (.cells (exC t A c) 24)).alloc (.cells #[.int .i64 3, .string ⟨#[]⟩, .string ⟨#[]⟩, .slice (some ⟨w.heap.size, 0, none⟩) 1 1] 24)) 24 (exC u B e)
    rw [World.size_alloc, World.size_alloc] at h
    exact h.alloc _
  · have h := Box.new (((w.alloc (.cells (exC t A c) 24)).alloc (.cells #[.int .i64 3, .string ⟨#[]⟩, .string ⟨#[]⟩, .slice (some ⟨w.heap.size, 0, none⟩) 1 1] 24)).alloc (.cells (exC u B e) 24)) 24 #[.int .i64 3, .string ⟨#[]⟩, .string ⟨#[]⟩, .slice (some ⟨w.heap.size + 1 + 1, 0, none⟩) 1 1]
    rw [World.size_alloc, World.size_alloc, World.size_alloc] at h
    exact h
theorem Nn.cells {q : Nat} {t u : Tr} {A B : Option Addr} {c e : Nat} {w : World} (h : Nn q t A c u B e w) :
    (w.cell? ⟨q + 1, 0, none⟩ = some (.int .i64 3) ∧ w.cell? ⟨q + 1, 1, none⟩ = some (.string ⟨#[]⟩) ∧ w.cell? ⟨q + 1, 2, none⟩ = some (.string ⟨#[]⟩) ∧ w.cell? ⟨q + 1, 3, none⟩ = some (.slice (some ⟨q, 0, none⟩) 1 1)) ∧
    (w.cell? ⟨q + 1 + 1 + 1, 0, none⟩ = some (.int .i64 3) ∧ w.cell? ⟨q + 1 + 1 + 1, 1, none⟩ = some (.string ⟨#[]⟩) ∧ w.cell? ⟨q + 1 + 1 + 1, 2, none⟩ = some (.string ⟨#[]⟩) ∧ w.cell? ⟨q + 1 + 1 + 1, 3, none⟩ = some (.slice (some ⟨q + 1 + 1, 0, none⟩) 1 1)) :=
  ⟨⟨h.b2.cell 0, h.b2.cell 1, h.b2.cell 2, h.b2.cell 3⟩, h.b4.cell 0, h.b4.cell 1, h.b4.cell 2, h.b4.cell 3⟩
theorem matchG_bad {t : Tr} {r : Rec} (h : ¬ (checkG t = 0 ∧ recE r = 0)) : matchG t r = (false, 1) := by unfold matchG; rw [if_neg h]
set_option maxHeartbeats 8000000 in
set_option maxRecDepth 100000 in
theorem matchTurned_walk (t : Tr) (A : Option Addr) (c n : Nat) (u : Tr) (B : Option Addr) (e m : Nat) (r : Rec) (Ar : Option Addr) (cr : Nat) (W : World) (hT : TrAt (fun _ => True) W n A t) (hU : TrAt (fun _ => True) W m B u) (hR : RIn W r Ar cr) (hS : RSmall r) (hTb : Tabs W) :
    Calls Tryd.prog 7 #[exV t A c, exV u B e, recV r Ar cr] W (Yes W) := by
  have cs := fun w (h : B3 W t A c n u B e m r Ar cr w) => rSize_c (fun _ => True) n t A c w h.tree
  have cd := fun w (h : B3 W t A c n u B e m r Ar cr w) => rDepth_c (fun _ => True) n t A c w h.tree
  have cs2 := fun w (h : B3 W t A c n u B e m r Ar cr w) => rSize_c (fun _ => True) m u B e w h.tree2
  have cd2 := fun w (h : B3 W t A c n u B e m r Ar cr w) => rDepth_c (fun _ => True) m u B e w h.tree2
  have cl := fun w (h : Tabs w) => live8_c w h
  have HB := Lib.hid (B3.start (c := c) (e := e) hT hU hR hTb)
  obtain ⟨⟨x0, x1, x2, x3⟩, ⟨u0, u1, u2, u3⟩, y0, y1, y2, y3, y4, y5, y6⟩ := HB.out.cells
  have hc : ∀ w, B3 W t A c n u B e m r Ar cr w → _ := fun w h => h.cells
  by_cases hm : sizeG t ≤ 8 ∧ sizeG u ≤ 8 ∧ depthG t ≤ 3 ∧ depthG u ≤ 3
  · have hx : OkT 2 8 t := OkT.of (by omega) (by omega) (by decide) (by decide)
    have hy : OkT 2 8 u := OkT.of (by omega) (by omega) (by decide) (by decide)
    obtain ⟨hm1, hm2, hm3, hm4⟩ := hm
    by_cases hr : (r.heads.length : Int) ≤ 20
    · have e1 := two_parts (op := 1) (.inl rfl) hx hy (by decide)
      have e2 := two_parts (op := 1) (.inl rfl) hy hx (by decide)
      have e3 := two_parts (op := 2) (.inr rfl) hx.one hy.one (by decide)
      rw [one_parts hx (by decide), one_parts hy (by decide)] at e3
      have f1 := (hx.two 1 hy).check (by decide) (by decide)
      have f2 := (hy.two 1 hx).check (by decide) (by decide)
      have f3 := (hx.one.two 2 hy.one).check (by decide) (by decide)
      rw [e1] at f1
      rw [e2, Bool.and_comm] at f2
      rw [e3] at f3
      clear e1 e2 e3
      by_cases hg : (partsB 6 t && partsB 6 u) = true ∧ recE r = 0
      · obtain ⟨hg1, g2⟩ := hg
        rw [if_pos hg1] at f1 f2 f3
        have k1 : ∀ w q (h : B3 W t A c n u B e m r Ar cr w) (hq : Box w q 24 #[.int .i64 t.op, .string t.name, .string t.value, .slice A t.kids.length c, .int .i64 u.op, .string u.name, .string u.value, .slice B u.kids.length e]), Calls Tryd.prog 11 #[.agg #[.int .i64 1, .string ⟨#[]⟩, .string ⟨#[]⟩, .slice (some ⟨q, 0, none⟩) 2 2], recV r Ar cr] w (Good w (Told (letsG r 6 t && letsG r 6 u, 0))) := fun w q h hq => by
          have := pmatch_c (N2 1 t u) (some ⟨q, 0, none⟩) 2 r Ar cr w ((N2_at 1 (.inl rfl) hq (trAt_to h.tree hx.dep) (trAt_to h.tree2 hy.dep)).le (by decide)) h.rin h.tabs
          rw [matchG_is f1 g2, and_lets r hx hy (by decide)] at this
          exact this
        have k2 : ∀ w q (h : B3 W t A c n u B e m r Ar cr w) (hq : Box w q 24 #[.int .i64 u.op, .string u.name, .string u.value, .slice B u.kids.length e, .int .i64 t.op, .string t.name, .string t.value, .slice A t.kids.length c]), Calls Tryd.prog 11 #[.agg #[.int .i64 1, .string ⟨#[]⟩, .string ⟨#[]⟩, .slice (some ⟨q, 0, none⟩) 2 2], recV r Ar cr] w (Good w (Told (letsG r 6 u && letsG r 6 t, 0))) := fun w q h hq => by
          have := pmatch_c (N2 1 u t) (some ⟨q, 0, none⟩) 2 r Ar cr w ((N2_at 1 (.inl rfl) hq (trAt_to h.tree2 hy.dep) (trAt_to h.tree hx.dep)).le (by decide)) h.rin h.tabs
          rw [matchG_is f2 g2, and_lets r hy hx (by decide)] at this
          exact this
        have k3 : ∀ q0 w q (h : B3 W t A c n u B e m r Ar cr w) (hn : Nn q0 t A c u B e w) (hq : Box w q 24 #[.int .i64 3, .string ⟨#[]⟩, .string ⟨#[]⟩, .slice (some ⟨q0, 0, none⟩) 1 1, .int .i64 3, .string ⟨#[]⟩, .string ⟨#[]⟩, .slice (some ⟨q0 + 1 + 1, 0, none⟩) 1 1]), Calls Tryd.prog 11 #[.agg #[.int .i64 2, .string ⟨#[]⟩, .string ⟨#[]⟩, .slice (some ⟨q, 0, none⟩) 2 2], recV r Ar cr] w (Good w (Told (!(letsG r 6 t) || !(letsG r 6 u), 0))) := fun q0 w q h hn hq => by
          have := pmatch_c (N2 2 (N1 t) (N1 u)) (some ⟨q, 0, none⟩) 2 r Ar cr w ((N2_at (x := N1 t) (y := N1 u) 2 (.inr rfl) hq (N1_at hn.b1 (trAt_to h.tree hx.dep)) (N1_at hn.b3 (trAt_to h.tree2 hy.dep))).le (by decide)) h.rin h.tabs
          rw [matchG_is f3 g2, or_lets r hx.one hy.one (by decide), not_lets r hx (by decide), not_lets r hy (by decide)] at this
          exact this
        have hnc : ∀ q w, Nn q t A c u B e w → _ := fun q w h => h.cells
        clear hT hU hR hTb f1 f2 f3 hg1 g2 hx hy
        generalize sizeG t = sg at *
        generalize depthG t = dg at *
        generalize sizeG u = sg2 at *
        generalize depthG u = dg2 at *
        generalize letsG r 6 t = lv at *
        generalize letsG r 6 u = lu at *
        unfold exV exC recV recC Yes Told at *
        go_enter Tryd.func7, Tryd.ntmps7
        go_wp2_with fail
        with_reducible refine (cs _ HB.out).mono ?_
        rintro en w1 ⟨rfl, hb1⟩
        have HB1 := Lib.hid (HB.out.later hb1)
        clear hb1 x0 x1 x2 x3 u0 u1 u2 u3 y0 y1 y2 y3 y4 y5 y6 HB cs
        obtain ⟨⟨x0, x1, x2, x3⟩, ⟨u0, u1, u2, u3⟩, y0, y1, y2, y3, y4, y5, y6⟩ := hc _ HB1.out
        go_wp2_with fail
        with_reducible refine (cs2 _ HB1.out).mono ?_
        rintro en w2 ⟨rfl, hb2⟩
        have HB2 := Lib.hid (HB1.out.later hb2)
        clear hb2 x0 x1 x2 x3 u0 u1 u2 u3 y0 y1 y2 y3 y4 y5 y6 HB1 cs2
        obtain ⟨⟨x0, x1, x2, x3⟩, ⟨u0, u1, u2, u3⟩, y0, y1, y2, y3, y4, y5, y6⟩ := hc _ HB2.out
        go_wp2_with fail
        with_reducible refine (cd _ HB2.out).mono ?_
        rintro en w3 ⟨rfl, hb3⟩
        have HB3 := Lib.hid (HB2.out.later hb3)
        clear hb3 x0 x1 x2 x3 u0 u1 u2 u3 y0 y1 y2 y3 y4 y5 y6 HB2 cd
        obtain ⟨⟨x0, x1, x2, x3⟩, ⟨u0, u1, u2, u3⟩, y0, y1, y2, y3, y4, y5, y6⟩ := hc _ HB3.out
        go_wp2_with fail
        with_reducible refine (cd2 _ HB3.out).mono ?_
        rintro en w4 ⟨rfl, hb4⟩
        have HB4 := Lib.hid (HB3.out.later hb4)
        clear hb4 x0 x1 x2 x3 u0 u1 u2 u3 y0 y1 y2 y3 y4 y5 y6 HB3 cd2
        obtain ⟨⟨x0, x1, x2, x3⟩, ⟨u0, u1, u2, u3⟩, y0, y1, y2, y3, y4, y5, y6⟩ := hc _ HB4.out
        have HN4 := Lib.hid (Nn.start t A c u B e w4)
        have HA1 := Lib.hid (HB4.out.later ((Below.refl _ _).alloc (Nat.le_refl _) (.cells #[.int .i64 t.op, .string t.name, .string t.value, .slice A t.kids.length c] 24)))
        have HA2 := Lib.hid (HA1.out.later ((Below.refl _ _).alloc (Nat.le_refl _) (.cells #[.int .i64 3, .string ⟨#[]⟩, .string ⟨#[]⟩, .slice (some ⟨w4.heap.size, 0, none⟩) 1 1] 24)))
        have HA3 := Lib.hid (HA2.out.later ((Below.refl _ _).alloc (Nat.le_refl _) (.cells #[.int .i64 u.op, .string u.name, .string u.value, .slice B u.kids.length e] 24)))
        have HA4 := Lib.hid (HA3.out.later ((Below.refl _ _).alloc (Nat.le_refl _) (.cells #[.int .i64 3, .string ⟨#[]⟩, .string ⟨#[]⟩, .slice (some ⟨w4.heap.size + 1 + 1, 0, none⟩) 1 1] 24)))
        have HA5 := Lib.hid (HA4.out.later ((Below.refl _ _).alloc (Nat.le_refl _) (.cells #[.int .i64 t.op, .string t.name, .string t.value, .slice A t.kids.length c, .int .i64 u.op, .string u.name, .string u.value, .slice B u.kids.length e] 24)))
        have HQ := Lib.hid (Box.new ((((w4.alloc (.cells #[.int .i64 t.op, .string t.name, .string t.value, .slice A t.kids.length c] 24)).alloc (.cells #[.int .i64 3, .string ⟨#[]⟩, .string ⟨#[]⟩, .slice (some ⟨w4.heap.size, 0, none⟩) 1 1] 24)).alloc (.cells #[.int .i64 u.op, .string u.name, .string u.value, .slice B u.kids.length e] 24)).alloc (.cells #[.int .i64 3, .string ⟨#[]⟩, .string ⟨#[]⟩, .slice (some ⟨w4.heap.size + 1 + 1, 0, none⟩) 1 1] 24)) 24 #[.int .i64 t.op, .string t.name, .string t.value, .slice A t.kids.length c, .int .i64 u.op, .string u.name, .string u.value, .slice B u.kids.length e])
        simp only [World.size_alloc] at HQ
        unfold exC at HN4
        have HN5 := Lib.hid (HN4.out.later ((Below.refl _ _).alloc (Nat.le_refl _) (.cells #[.int .i64 t.op, .string t.name, .string t.value, .slice A t.kids.length c, .int .i64 u.op, .string u.name, .string u.value, .slice B u.kids.length e] 24)))
        obtain ⟨⟨ax0, ax1, ax2, ax3⟩, ⟨au0, au1, au2, au3⟩, ay0, ay1, ay2, ay3, ay4, ay5, ay6⟩ := hc _ HA2.out
        obtain ⟨⟨bx0, bx1, bx2, bx3⟩, ⟨bu0, bu1, bu2, bu3⟩, by0, by1, by2, by3, by4, by5, by6⟩ := hc _ HA4.out
        obtain ⟨⟨dx0, dx1, dx2, dx3⟩, ⟨du0, du1, du2, du3⟩, dy0, dy1, dy2, dy3, dy4, dy5, dy6⟩ := hc _ HA5.out
        go_wp2_with fail
        with_reducible refine (k1 _ _ HA5.out HQ.out).mono ?_
        rintro en w5 ⟨rfl, hb5⟩
        have HB5 := Lib.hid (HA5.out.later hb5)
        have HN6 := Lib.hid (HN5.out.later hb5)
        clear hb5 x0 x1 x2 x3 u0 u1 u2 u3 y0 y1 y2 y3 y4 y5 y6 ax0 ax1 ax2 ax3 au0 au1 au2 au3 ay0 ay1 ay2 ay3 ay4 ay5 ay6 bx0 bx1 bx2 bx3 bu0 bu1 bu2 bu3 by0 by1 by2 by3 by4 by5 by6 dx0 dx1 dx2 dx3 du0 du1 du2 du3 dy0 dy1 dy2 dy3 dy4 dy5 dy6 HA1 HA2 HA3 HA4 HA5 HB4 HQ HN4 HN5 k1
        obtain ⟨⟨x0, x1, x2, x3⟩, ⟨u0, u1, u2, u3⟩, y0, y1, y2, y3, y4, y5, y6⟩ := hc _ HB5.out
        have HA6 := Lib.hid (HB5.out.later ((Below.refl _ _).alloc (Nat.le_refl _) (.cells #[.int .i64 u.op, .string u.name, .string u.value, .slice B u.kids.length e, .int .i64 t.op, .string t.name, .string t.value, .slice A t.kids.length c] 24)))
        have HQ := Lib.hid (Box.new w5 24 #[.int .i64 u.op, .string u.name, .string u.value, .slice B u.kids.length e, .int .i64 t.op, .string t.name, .string t.value, .slice A t.kids.length c])
        have HN7 := Lib.hid (HN6.out.later ((Below.refl _ _).alloc (Nat.le_refl _) (.cells #[.int .i64 u.op, .string u.name, .string u.value, .slice B u.kids.length e, .int .i64 t.op, .string t.name, .string t.value, .slice A t.kids.length c] 24)))
        obtain ⟨⟨ax0, ax1, ax2, ax3⟩, ⟨au0, au1, au2, au3⟩, ay0, ay1, ay2, ay3, ay4, ay5, ay6⟩ := hc _ HA6.out
        go_wp2_with fail
        with_reducible refine (k2 _ _ HA6.out HQ.out).mono ?_
        rintro en w6 ⟨rfl, hb6⟩
        have HB6 := Lib.hid (HA6.out.later hb6)
        have HN8 := Lib.hid (HN7.out.later hb6)
        clear hb6 x0 x1 x2 x3 u0 u1 u2 u3 y0 y1 y2 y3 y4 y5 y6 ax0 ax1 ax2 ax3 au0 au1 au2 au3 ay0 ay1 ay2 ay3 ay4 ay5 ay6 HA6 HB5 HQ HN6 HN7 k2
        obtain ⟨⟨x0, x1, x2, x3⟩, ⟨u0, u1, u2, u3⟩, y0, y1, y2, y3, y4, y5, y6⟩ := hc _ HB6.out
        obtain ⟨⟨n0, n1, n2, n3⟩, o0, o1, o2, o3⟩ := hnc _ _ HN8.out
        have HA7 := Lib.hid (HB6.out.later ((Below.refl _ _).alloc (Nat.le_refl _) (.cells #[.int .i64 3, .string ⟨#[]⟩, .string ⟨#[]⟩, .slice (some ⟨w4.heap.size, 0, none⟩) 1 1, .int .i64 3, .string ⟨#[]⟩, .string ⟨#[]⟩, .slice (some ⟨w4.heap.size + 1 + 1, 0, none⟩) 1 1] 24)))
        have HQ := Lib.hid (Box.new w6 24 #[.int .i64 3, .string ⟨#[]⟩, .string ⟨#[]⟩, .slice (some ⟨w4.heap.size, 0, none⟩) 1 1, .int .i64 3, .string ⟨#[]⟩, .string ⟨#[]⟩, .slice (some ⟨w4.heap.size + 1 + 1, 0, none⟩) 1 1])
        have HN9 := Lib.hid (HN8.out.later ((Below.refl _ _).alloc (Nat.le_refl _) (.cells #[.int .i64 3, .string ⟨#[]⟩, .string ⟨#[]⟩, .slice (some ⟨w4.heap.size, 0, none⟩) 1 1, .int .i64 3, .string ⟨#[]⟩, .string ⟨#[]⟩, .slice (some ⟨w4.heap.size + 1 + 1, 0, none⟩) 1 1] 24)))
        obtain ⟨⟨ax0, ax1, ax2, ax3⟩, ⟨au0, au1, au2, au3⟩, ay0, ay1, ay2, ay3, ay4, ay5, ay6⟩ := hc _ HA7.out
        go_wp2_with fail
        with_reducible refine (k3 _ _ _ HA7.out HN9.out HQ.out).mono ?_
        rintro en w7 ⟨rfl, hb7⟩
        have HB7 := Lib.hid (HA7.out.later hb7)
        clear hb7 x0 x1 x2 x3 u0 u1 u2 u3 y0 y1 y2 y3 y4 y5 y6 ax0 ax1 ax2 ax3 au0 au1 au2 au3 ay0 ay1 ay2 ay3 ay4 ay5 ay6 n0 n1 n2 n3 o0 o1 o2 o3 HA7 HB6 HQ HN8 HN9 k3
        cases lv <;> cases lu
        all_goals go_wp2_with fail
        all_goals with_reducible refine (cl _ HB7.out.tabs).mono ?_
        all_goals rintro en w8 ⟨rfl, hb8⟩
        all_goals have hb := (HB7.out.later hb8).bel
        all_goals clear hb8 cl HB7
        all_goals go_wp2_with fail
        all_goals go_ret
        all_goals exact ⟨rfl, hb⟩
      · have b1 : matchG (N2 1 t u) r = (false, 1) := matchG_bad (fun h => hg ⟨Decidable.byContradiction fun hn => by rw [if_neg hn] at f1; rw [f1] at h; exact absurd h.1 (by decide), h.2⟩)
        have b2 : matchG (N2 1 u t) r = (false, 1) := matchG_bad (fun h => hg ⟨Decidable.byContradiction fun hn => by rw [if_neg hn] at f2; rw [f2] at h; exact absurd h.1 (by decide), h.2⟩)
        have b3 : matchG (N2 2 (N1 t) (N1 u)) r = (false, 1) := matchG_bad (fun h => hg ⟨Decidable.byContradiction fun hn => by rw [if_neg hn] at f3; rw [f3] at h; exact absurd h.1 (by decide), h.2⟩)
        have k1 : ∀ w q (h : B3 W t A c n u B e m r Ar cr w) (hq : Box w q 24 #[.int .i64 t.op, .string t.name, .string t.value, .slice A t.kids.length c, .int .i64 u.op, .string u.name, .string u.value, .slice B u.kids.length e]), Calls Tryd.prog 11 #[.agg #[.int .i64 1, .string ⟨#[]⟩, .string ⟨#[]⟩, .slice (some ⟨q, 0, none⟩) 2 2], recV r Ar cr] w (Good w (Told (false, 1))) := fun w q h hq => by
          have := pmatch_c (N2 1 t u) (some ⟨q, 0, none⟩) 2 r Ar cr w ((N2_at 1 (.inl rfl) hq (trAt_to h.tree hx.dep) (trAt_to h.tree2 hy.dep)).le (by decide)) h.rin h.tabs
          rw [b1] at this
          exact this
        have k2 : ∀ w q (h : B3 W t A c n u B e m r Ar cr w) (hq : Box w q 24 #[.int .i64 u.op, .string u.name, .string u.value, .slice B u.kids.length e, .int .i64 t.op, .string t.name, .string t.value, .slice A t.kids.length c]), Calls Tryd.prog 11 #[.agg #[.int .i64 1, .string ⟨#[]⟩, .string ⟨#[]⟩, .slice (some ⟨q, 0, none⟩) 2 2], recV r Ar cr] w (Good w (Told (false, 1))) := fun w q h hq => by
          have := pmatch_c (N2 1 u t) (some ⟨q, 0, none⟩) 2 r Ar cr w ((N2_at 1 (.inl rfl) hq (trAt_to h.tree2 hy.dep) (trAt_to h.tree hx.dep)).le (by decide)) h.rin h.tabs
          rw [b2] at this
          exact this
        have k3 : ∀ q0 w q (h : B3 W t A c n u B e m r Ar cr w) (hn : Nn q0 t A c u B e w) (hq : Box w q 24 #[.int .i64 3, .string ⟨#[]⟩, .string ⟨#[]⟩, .slice (some ⟨q0, 0, none⟩) 1 1, .int .i64 3, .string ⟨#[]⟩, .string ⟨#[]⟩, .slice (some ⟨q0 + 1 + 1, 0, none⟩) 1 1]), Calls Tryd.prog 11 #[.agg #[.int .i64 2, .string ⟨#[]⟩, .string ⟨#[]⟩, .slice (some ⟨q, 0, none⟩) 2 2], recV r Ar cr] w (Good w (Told (false, 1))) := fun q0 w q h hn hq => by
          have := pmatch_c (N2 2 (N1 t) (N1 u)) (some ⟨q, 0, none⟩) 2 r Ar cr w ((N2_at (x := N1 t) (y := N1 u) 2 (.inr rfl) hq (N1_at hn.b1 (trAt_to h.tree hx.dep)) (N1_at hn.b3 (trAt_to h.tree2 hy.dep))).le (by decide)) h.rin h.tabs
          rw [b3] at this
          exact this
        have hnc : ∀ q w, Nn q t A c u B e w → _ := fun q w h => h.cells
        clear hT hU hR hTb f1 f2 f3 b1 b2 b3 hg hx hy
        generalize sizeG t = sg at *
        generalize depthG t = dg at *
        generalize sizeG u = sg2 at *
        generalize depthG u = dg2 at *
        unfold exV exC recV recC Yes Told at *
        go_enter Tryd.func7, Tryd.ntmps7
        go_wp2_with fail
        with_reducible refine (cs _ HB.out).mono ?_
        rintro en w1 ⟨rfl, hb1⟩
        have HB1 := Lib.hid (HB.out.later hb1)
        clear hb1 x0 x1 x2 x3 u0 u1 u2 u3 y0 y1 y2 y3 y4 y5 y6 HB cs
        obtain ⟨⟨x0, x1, x2, x3⟩, ⟨u0, u1, u2, u3⟩, y0, y1, y2, y3, y4, y5, y6⟩ := hc _ HB1.out
        go_wp2_with fail
        with_reducible refine (cs2 _ HB1.out).mono ?_
        rintro en w2 ⟨rfl, hb2⟩
        have HB2 := Lib.hid (HB1.out.later hb2)
        clear hb2 x0 x1 x2 x3 u0 u1 u2 u3 y0 y1 y2 y3 y4 y5 y6 HB1 cs2
        obtain ⟨⟨x0, x1, x2, x3⟩, ⟨u0, u1, u2, u3⟩, y0, y1, y2, y3, y4, y5, y6⟩ := hc _ HB2.out
        go_wp2_with fail
        with_reducible refine (cd _ HB2.out).mono ?_
        rintro en w3 ⟨rfl, hb3⟩
        have HB3 := Lib.hid (HB2.out.later hb3)
        clear hb3 x0 x1 x2 x3 u0 u1 u2 u3 y0 y1 y2 y3 y4 y5 y6 HB2 cd
        obtain ⟨⟨x0, x1, x2, x3⟩, ⟨u0, u1, u2, u3⟩, y0, y1, y2, y3, y4, y5, y6⟩ := hc _ HB3.out
        go_wp2_with fail
        with_reducible refine (cd2 _ HB3.out).mono ?_
        rintro en w4 ⟨rfl, hb4⟩
        have HB4 := Lib.hid (HB3.out.later hb4)
        clear hb4 x0 x1 x2 x3 u0 u1 u2 u3 y0 y1 y2 y3 y4 y5 y6 HB3 cd2
        obtain ⟨⟨x0, x1, x2, x3⟩, ⟨u0, u1, u2, u3⟩, y0, y1, y2, y3, y4, y5, y6⟩ := hc _ HB4.out
        have HN4 := Lib.hid (Nn.start t A c u B e w4)
        have HA1 := Lib.hid (HB4.out.later ((Below.refl _ _).alloc (Nat.le_refl _) (.cells #[.int .i64 t.op, .string t.name, .string t.value, .slice A t.kids.length c] 24)))
        have HA2 := Lib.hid (HA1.out.later ((Below.refl _ _).alloc (Nat.le_refl _) (.cells #[.int .i64 3, .string ⟨#[]⟩, .string ⟨#[]⟩, .slice (some ⟨w4.heap.size, 0, none⟩) 1 1] 24)))
        have HA3 := Lib.hid (HA2.out.later ((Below.refl _ _).alloc (Nat.le_refl _) (.cells #[.int .i64 u.op, .string u.name, .string u.value, .slice B u.kids.length e] 24)))
        have HA4 := Lib.hid (HA3.out.later ((Below.refl _ _).alloc (Nat.le_refl _) (.cells #[.int .i64 3, .string ⟨#[]⟩, .string ⟨#[]⟩, .slice (some ⟨w4.heap.size + 1 + 1, 0, none⟩) 1 1] 24)))
        have HA5 := Lib.hid (HA4.out.later ((Below.refl _ _).alloc (Nat.le_refl _) (.cells #[.int .i64 t.op, .string t.name, .string t.value, .slice A t.kids.length c, .int .i64 u.op, .string u.name, .string u.value, .slice B u.kids.length e] 24)))
        have HQ := Lib.hid (Box.new ((((w4.alloc (.cells #[.int .i64 t.op, .string t.name, .string t.value, .slice A t.kids.length c] 24)).alloc (.cells #[.int .i64 3, .string ⟨#[]⟩, .string ⟨#[]⟩, .slice (some ⟨w4.heap.size, 0, none⟩) 1 1] 24)).alloc (.cells #[.int .i64 u.op, .string u.name, .string u.value, .slice B u.kids.length e] 24)).alloc (.cells #[.int .i64 3, .string ⟨#[]⟩, .string ⟨#[]⟩, .slice (some ⟨w4.heap.size + 1 + 1, 0, none⟩) 1 1] 24)) 24 #[.int .i64 t.op, .string t.name, .string t.value, .slice A t.kids.length c, .int .i64 u.op, .string u.name, .string u.value, .slice B u.kids.length e])
        simp only [World.size_alloc] at HQ
        unfold exC at HN4
        have HN5 := Lib.hid (HN4.out.later ((Below.refl _ _).alloc (Nat.le_refl _) (.cells #[.int .i64 t.op, .string t.name, .string t.value, .slice A t.kids.length c, .int .i64 u.op, .string u.name, .string u.value, .slice B u.kids.length e] 24)))
        obtain ⟨⟨ax0, ax1, ax2, ax3⟩, ⟨au0, au1, au2, au3⟩, ay0, ay1, ay2, ay3, ay4, ay5, ay6⟩ := hc _ HA2.out
        obtain ⟨⟨bx0, bx1, bx2, bx3⟩, ⟨bu0, bu1, bu2, bu3⟩, by0, by1, by2, by3, by4, by5, by6⟩ := hc _ HA4.out
        obtain ⟨⟨dx0, dx1, dx2, dx3⟩, ⟨du0, du1, du2, du3⟩, dy0, dy1, dy2, dy3, dy4, dy5, dy6⟩ := hc _ HA5.out
        go_wp2_with fail
        with_reducible refine (k1 _ _ HA5.out HQ.out).mono ?_
        rintro en w5 ⟨rfl, hb5⟩
        have HB5 := Lib.hid (HA5.out.later hb5)
        have HN6 := Lib.hid (HN5.out.later hb5)
        clear hb5 x0 x1 x2 x3 u0 u1 u2 u3 y0 y1 y2 y3 y4 y5 y6 ax0 ax1 ax2 ax3 au0 au1 au2 au3 ay0 ay1 ay2 ay3 ay4 ay5 ay6 bx0 bx1 bx2 bx3 bu0 bu1 bu2 bu3 by0 by1 by2 by3 by4 by5 by6 dx0 dx1 dx2 dx3 du0 du1 du2 du3 dy0 dy1 dy2 dy3 dy4 dy5 dy6 HA1 HA2 HA3 HA4 HA5 HB4 HQ HN4 HN5 k1
        obtain ⟨⟨x0, x1, x2, x3⟩, ⟨u0, u1, u2, u3⟩, y0, y1, y2, y3, y4, y5, y6⟩ := hc _ HB5.out
        have HA6 := Lib.hid (HB5.out.later ((Below.refl _ _).alloc (Nat.le_refl _) (.cells #[.int .i64 u.op, .string u.name, .string u.value, .slice B u.kids.length e, .int .i64 t.op, .string t.name, .string t.value, .slice A t.kids.length c] 24)))
        have HQ := Lib.hid (Box.new w5 24 #[.int .i64 u.op, .string u.name, .string u.value, .slice B u.kids.length e, .int .i64 t.op, .string t.name, .string t.value, .slice A t.kids.length c])
        have HN7 := Lib.hid (HN6.out.later ((Below.refl _ _).alloc (Nat.le_refl _) (.cells #[.int .i64 u.op, .string u.name, .string u.value, .slice B u.kids.length e, .int .i64 t.op, .string t.name, .string t.value, .slice A t.kids.length c] 24)))
        obtain ⟨⟨ax0, ax1, ax2, ax3⟩, ⟨au0, au1, au2, au3⟩, ay0, ay1, ay2, ay3, ay4, ay5, ay6⟩ := hc _ HA6.out
        go_wp2_with fail
        with_reducible refine (k2 _ _ HA6.out HQ.out).mono ?_
        rintro en w6 ⟨rfl, hb6⟩
        have HB6 := Lib.hid (HA6.out.later hb6)
        have HN8 := Lib.hid (HN7.out.later hb6)
        clear hb6 x0 x1 x2 x3 u0 u1 u2 u3 y0 y1 y2 y3 y4 y5 y6 ax0 ax1 ax2 ax3 au0 au1 au2 au3 ay0 ay1 ay2 ay3 ay4 ay5 ay6 HA6 HB5 HQ HN6 HN7 k2
        obtain ⟨⟨x0, x1, x2, x3⟩, ⟨u0, u1, u2, u3⟩, y0, y1, y2, y3, y4, y5, y6⟩ := hc _ HB6.out
        obtain ⟨⟨n0, n1, n2, n3⟩, o0, o1, o2, o3⟩ := hnc _ _ HN8.out
        have HA7 := Lib.hid (HB6.out.later ((Below.refl _ _).alloc (Nat.le_refl _) (.cells #[.int .i64 3, .string ⟨#[]⟩, .string ⟨#[]⟩, .slice (some ⟨w4.heap.size, 0, none⟩) 1 1, .int .i64 3, .string ⟨#[]⟩, .string ⟨#[]⟩, .slice (some ⟨w4.heap.size + 1 + 1, 0, none⟩) 1 1] 24)))
        have HQ := Lib.hid (Box.new w6 24 #[.int .i64 3, .string ⟨#[]⟩, .string ⟨#[]⟩, .slice (some ⟨w4.heap.size, 0, none⟩) 1 1, .int .i64 3, .string ⟨#[]⟩, .string ⟨#[]⟩, .slice (some ⟨w4.heap.size + 1 + 1, 0, none⟩) 1 1])
        have HN9 := Lib.hid (HN8.out.later ((Below.refl _ _).alloc (Nat.le_refl _) (.cells #[.int .i64 3, .string ⟨#[]⟩, .string ⟨#[]⟩, .slice (some ⟨w4.heap.size, 0, none⟩) 1 1, .int .i64 3, .string ⟨#[]⟩, .string ⟨#[]⟩, .slice (some ⟨w4.heap.size + 1 + 1, 0, none⟩) 1 1] 24)))
        obtain ⟨⟨ax0, ax1, ax2, ax3⟩, ⟨au0, au1, au2, au3⟩, ay0, ay1, ay2, ay3, ay4, ay5, ay6⟩ := hc _ HA7.out
        go_wp2_with fail
        with_reducible refine (k3 _ _ _ HA7.out HN9.out HQ.out).mono ?_
        rintro en w7 ⟨rfl, hb7⟩
        have HB7 := Lib.hid (HA7.out.later hb7)
        clear hb7 x0 x1 x2 x3 u0 u1 u2 u3 y0 y1 y2 y3 y4 y5 y6 ax0 ax1 ax2 ax3 au0 au1 au2 au3 ay0 ay1 ay2 ay3 ay4 ay5 ay6 n0 n1 n2 n3 o0 o1 o2 o3 HA7 HB6 HQ HN8 HN9 k3
        go_wp2_with fail
        with_reducible refine (cl _ HB7.out.tabs).mono ?_
        rintro en w8 ⟨rfl, hb8⟩
        have hb := (HB7.out.later hb8).bel
        clear hb8 cl HB7
        go_wp2_with fail
        go_ret
        exact ⟨rfl, hb⟩
    · clear hT hU hR hTb hx hy
      generalize sizeG t = sg at *
      generalize depthG t = dg at *
      generalize sizeG u = sg2 at *
      generalize depthG u = dg2 at *
      unfold exV exC recV recC Yes at *
      go_enter Tryd.func7, Tryd.ntmps7
      go_wp2_with fail
      with_reducible refine (cs _ HB.out).mono ?_
      rintro en w1 ⟨rfl, hb1⟩
      have HB1 := Lib.hid (HB.out.later hb1)
      clear hb1 x0 x1 x2 x3 u0 u1 u2 u3 y0 y1 y2 y3 y4 y5 y6 HB cs
      obtain ⟨⟨x0, x1, x2, x3⟩, ⟨u0, u1, u2, u3⟩, y0, y1, y2, y3, y4, y5, y6⟩ := hc _ HB1.out
      go_wp2_with fail
      with_reducible refine (cs2 _ HB1.out).mono ?_
      rintro en w2 ⟨rfl, hb2⟩
      have HB2 := Lib.hid (HB1.out.later hb2)
      clear hb2 x0 x1 x2 x3 u0 u1 u2 u3 y0 y1 y2 y3 y4 y5 y6 HB1 cs2
      obtain ⟨⟨x0, x1, x2, x3⟩, ⟨u0, u1, u2, u3⟩, y0, y1, y2, y3, y4, y5, y6⟩ := hc _ HB2.out
      go_wp2_with fail
      with_reducible refine (cd _ HB2.out).mono ?_
      rintro en w3 ⟨rfl, hb3⟩
      have HB3 := Lib.hid (HB2.out.later hb3)
      clear hb3 x0 x1 x2 x3 u0 u1 u2 u3 y0 y1 y2 y3 y4 y5 y6 HB2 cd
      obtain ⟨⟨x0, x1, x2, x3⟩, ⟨u0, u1, u2, u3⟩, y0, y1, y2, y3, y4, y5, y6⟩ := hc _ HB3.out
      go_wp2_with fail
      with_reducible refine (cd2 _ HB3.out).mono ?_
      rintro en w4 ⟨rfl, hb4⟩
      have HB4 := Lib.hid (HB3.out.later hb4)
      clear hb4 x0 x1 x2 x3 u0 u1 u2 u3 y0 y1 y2 y3 y4 y5 y6 HB3 cd2
      obtain ⟨⟨x0, x1, x2, x3⟩, ⟨u0, u1, u2, u3⟩, y0, y1, y2, y3, y4, y5, y6⟩ := hc _ HB4.out
      go_wp2_with fail
      with_reducible refine (cl _ HB4.out.tabs).mono ?_
      rintro en w5 ⟨rfl, hb5⟩
      have hb := (HB4.out.later hb5).bel
      clear hb5 cl HB4
      go_wp2_with fail
      go_ret
      exact ⟨rfl, hb⟩
  · clear hT hU hR hTb 
    generalize sizeG t = sg at *
    generalize depthG t = dg at *
    generalize sizeG u = sg2 at *
    generalize depthG u = dg2 at *
    unfold exV exC recV recC Yes at *
    by_cases h1 : sg ≤ 8
    · by_cases h2 : sg2 ≤ 8
      · by_cases h3 : dg ≤ 3
        · have h4 : ¬ dg2 ≤ 3 := fun h => hm ⟨h1, h2, h3, h⟩
          clear hm
          go_enter Tryd.func7, Tryd.ntmps7
          go_wp2_with fail
          with_reducible refine (cs _ HB.out).mono ?_
          rintro en w1 ⟨rfl, hb1⟩
          have HB1 := Lib.hid (HB.out.later hb1)
          clear hb1 x0 x1 x2 x3 u0 u1 u2 u3 y0 y1 y2 y3 y4 y5 y6 HB cs
          obtain ⟨⟨x0, x1, x2, x3⟩, ⟨u0, u1, u2, u3⟩, y0, y1, y2, y3, y4, y5, y6⟩ := hc _ HB1.out
          go_wp2_with fail
          with_reducible refine (cs2 _ HB1.out).mono ?_
          rintro en w2 ⟨rfl, hb2⟩
          have HB2 := Lib.hid (HB1.out.later hb2)
          clear hb2 x0 x1 x2 x3 u0 u1 u2 u3 y0 y1 y2 y3 y4 y5 y6 HB1 cs2
          obtain ⟨⟨x0, x1, x2, x3⟩, ⟨u0, u1, u2, u3⟩, y0, y1, y2, y3, y4, y5, y6⟩ := hc _ HB2.out
          go_wp2_with fail
          with_reducible refine (cd _ HB2.out).mono ?_
          rintro en w3 ⟨rfl, hb3⟩
          have HB3 := Lib.hid (HB2.out.later hb3)
          clear hb3 x0 x1 x2 x3 u0 u1 u2 u3 y0 y1 y2 y3 y4 y5 y6 HB2 cd
          obtain ⟨⟨x0, x1, x2, x3⟩, ⟨u0, u1, u2, u3⟩, y0, y1, y2, y3, y4, y5, y6⟩ := hc _ HB3.out
          go_wp2_with fail
          with_reducible refine (cd2 _ HB3.out).mono ?_
          rintro en w4 ⟨rfl, hb4⟩
          have HB4 := Lib.hid (HB3.out.later hb4)
          clear hb4 x0 x1 x2 x3 u0 u1 u2 u3 y0 y1 y2 y3 y4 y5 y6 HB3 cd2
          obtain ⟨⟨x0, x1, x2, x3⟩, ⟨u0, u1, u2, u3⟩, y0, y1, y2, y3, y4, y5, y6⟩ := hc _ HB4.out
          go_wp2_with fail
          with_reducible refine (cl _ HB4.out.tabs).mono ?_
          rintro en w5 ⟨rfl, hb5⟩
          have hb := (HB4.out.later hb5).bel
          clear hb5 cl HB4
          go_wp2_with fail
          go_ret
          exact ⟨rfl, hb⟩
        · clear hm cd2
          go_enter Tryd.func7, Tryd.ntmps7
          go_wp2_with fail
          with_reducible refine (cs _ HB.out).mono ?_
          rintro en w1 ⟨rfl, hb1⟩
          have HB1 := Lib.hid (HB.out.later hb1)
          clear hb1 x0 x1 x2 x3 u0 u1 u2 u3 y0 y1 y2 y3 y4 y5 y6 HB cs
          obtain ⟨⟨x0, x1, x2, x3⟩, ⟨u0, u1, u2, u3⟩, y0, y1, y2, y3, y4, y5, y6⟩ := hc _ HB1.out
          go_wp2_with fail
          with_reducible refine (cs2 _ HB1.out).mono ?_
          rintro en w2 ⟨rfl, hb2⟩
          have HB2 := Lib.hid (HB1.out.later hb2)
          clear hb2 x0 x1 x2 x3 u0 u1 u2 u3 y0 y1 y2 y3 y4 y5 y6 HB1 cs2
          obtain ⟨⟨x0, x1, x2, x3⟩, ⟨u0, u1, u2, u3⟩, y0, y1, y2, y3, y4, y5, y6⟩ := hc _ HB2.out
          go_wp2_with fail
          with_reducible refine (cd _ HB2.out).mono ?_
          rintro en w3 ⟨rfl, hb3⟩
          have HB3 := Lib.hid (HB2.out.later hb3)
          clear hb3 x0 x1 x2 x3 u0 u1 u2 u3 y0 y1 y2 y3 y4 y5 y6 HB2 cd
          go_wp2_with fail
          with_reducible refine (cl _ HB3.out.tabs).mono ?_
          rintro en w4 ⟨rfl, hb4⟩
          have hb := (HB3.out.later hb4).bel
          clear hb4 cl HB3
          go_wp2_with fail
          go_ret
          exact ⟨rfl, hb⟩
      · clear hm cd cd2
        go_enter Tryd.func7, Tryd.ntmps7
        go_wp2_with fail
        with_reducible refine (cs _ HB.out).mono ?_
        rintro en w1 ⟨rfl, hb1⟩
        have HB1 := Lib.hid (HB.out.later hb1)
        clear hb1 x0 x1 x2 x3 u0 u1 u2 u3 y0 y1 y2 y3 y4 y5 y6 HB cs
        obtain ⟨⟨x0, x1, x2, x3⟩, ⟨u0, u1, u2, u3⟩, y0, y1, y2, y3, y4, y5, y6⟩ := hc _ HB1.out
        go_wp2_with fail
        with_reducible refine (cs2 _ HB1.out).mono ?_
        rintro en w2 ⟨rfl, hb2⟩
        have HB2 := Lib.hid (HB1.out.later hb2)
        clear hb2 x0 x1 x2 x3 u0 u1 u2 u3 y0 y1 y2 y3 y4 y5 y6 HB1 cs2
        go_wp2_with fail
        with_reducible refine (cl _ HB2.out.tabs).mono ?_
        rintro en w3 ⟨rfl, hb3⟩
        have hb := (HB2.out.later hb3).bel
        clear hb3 cl HB2
        go_wp2_with fail
        go_ret
        exact ⟨rfl, hb⟩
    · clear hm cd cd2 cs2
      go_enter Tryd.func7, Tryd.ntmps7
      go_wp2_with fail
      with_reducible refine (cs _ HB.out).mono ?_
      rintro en w1 ⟨rfl, hb1⟩
      have HB1 := Lib.hid (HB.out.later hb1)
      clear hb1 x0 x1 x2 x3 u0 u1 u2 u3 y0 y1 y2 y3 y4 y5 y6 HB cs
      go_wp2_with fail
      with_reducible refine (cl _ HB1.out.tabs).mono ?_
      rintro en w2 ⟨rfl, hb2⟩
      have hb := (HB1.out.later hb2).bel
      clear hb2 cl HB1
      go_wp2_with fail
      go_ret
      exact ⟨rfl, hb⟩
end Go.Proofs.YtmnmgbbdjpfonaaDoor
