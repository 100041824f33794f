/- member: MemberRises, walked. No condition. -/
import Derived.Test.YthbcklamhoekmaaMbPs
import Derived.Test.YthbcklamhoekmaaMbLiv
import Derived.BigQuiet
namespace Go.Proofs.Ythbcklamhoekmaa
open Go.RowKit
set_option linter.unusedVariables false
theorem PR.start {W w : World} {p : Nat} {s r : Int} (h : GO W w p (.slice none 0 0) 0 (newG s r)) (hs : 1 ≤ s ∧ s ≤ 100000) (hr : 1 ≤ r ∧ r ≤ 100000) : Px W (w.alloc (.cells #[.int .i64 s, .int .i64 r, .int .i64 0, .int .i64 0, .int .i64 0, .int .i64 0, .slice none 0 0] 48)) (fun j => j = p ∨ j = w.heap.size) p w.heap.size 0 (newG s r) (newG s r) (w.alloc (.cells #[.int .i64 s, .int .i64 r, .int .i64 0, .int .i64 0, .int .i64 0, .int .i64 0, .slice none 0 0] 48)) := by
  refine ⟨.slice none 0 0, .slice none 0 0, ⟨h.later ((Below.refl _ _).alloc (Nat.le_refl _) _), ⟨[], ⟨Box.new w 48 #[.int .i64 s, .int .i64 r, .int .i64 0, .int .i64 0, .int .i64 0, .int .i64 0, .slice none 0 0], h.bel.size, World.ownsRow_nil _ _ _ _, (fun x hx => by cases hx), rfl⟩⟩, h.q, h.n⟩, Off.refl _ _, fun j hj => ?_⟩
  rcases hj with (rfl | e) | (rfl | e)
  · exact .inl (.inl rfl)
  · cases e
  · exact .inl (.inr rfl)
  · cases e
set_option maxHeartbeats 16000000 in
set_option maxRecDepth 100000 in
theorem memberRises_walk (s r : Int) (A : Option Addr) (c : Nat) (L : List OM) (W : World) (_h0 : (Lit.int .i64 s).wf = true) (_h1 : (Lit.int .i64 r).wf = true) (hL : OmsIn W A L) : Calls Try.prog 4 #[.int .i64 s, .int .i64 r, .slice A L.length c] W (Good W (.bool true)) := by
  have HL := Lib.hid hL
  clear hL _h0 _h1
  cases hin : (witB s 1 100000 && witB r 1 100000) with
  | false =>
    have cn := new_no s r hin W
    go_enter Try.func4, Try.ntmps4
    go_wp2_with fail
    with_reducible refine cn.mono ?_
    rintro e w1 ⟨rfl, rfl⟩
    go_wp2_with fail
    with_reducible refine (live15_c _).mono ?_
    rintro e w2 ⟨rfl, hb2⟩
    go_wp2_with fail
    go_ret
    exact ⟨rfl, hb2⟩
  | true =>
    have hb : (1 ≤ s ∧ s ≤ 100000) ∧ 1 ≤ r ∧ r ≤ 100000 := by
      unfold witB at hin
      simp only [Bool.and_eq_true, decide_eq_true_eq] at hin
      exact hin
    have cn := new_ok s r hin W
    go_enter Try.func4, Try.ntmps4
    go_wp2_with fail
    with_reducible refine cn.mono ?_
    rintro e w1 ⟨rfl, hw1⟩
    have h1 : GO W w1 W.heap.size (.slice none 0 0) 0 (newG s r) := by rw [hw1]; exact GO.new (Below.refl _ _) hb.1 hb.2
    have H2 := Lib.hid (PR.start h1 hb.1 hb.2)
    clear hw1 cn h1 hin
    have cs := fun (x : OM) w => (show Calls Try.prog 18 #[.agg #[.int .i64 x.do_, .int .i64 x.m, .slice x.TA x.T.length x.tc, .int .i64 x.gen, .slice x.PA x.P.length x.pc, .bool x.rnd, .int .i64 x.now]] w (fun e w' => e = .returned (.bool (smallB x)) ∧ Below w.heap.size w w') from small_c x w)
    go_wp2_with fail
    go_loopw [10] (fun j wr => ∃ (k : Nat) (cc : Int) (G K : GD) (w0 : World) (S : Nat → Prop), j = .int .i64 k ∧ k ≤ 60 ∧ k ≤ L.length ∧ cc ≤ 4 * k ∧ Px W w0 S W.heap.size w1.heap.size cc G K wr) (fun j _ => 60 - (intOf j).toNat)
    case atStart => exact ⟨0, 0, _, _, _, _, rfl, by omega, by omega, by omega, H2.out⟩
    case round =>
      obtain ⟨k, cc, G, K, w0, S, rfl, hk60, hkL, hcc, hP⟩ := hrel
      clear H2
      generalize W.heap.size = p at *
      by_cases hk : k < L.length ∧ k < 60
      · obtain ⟨hk1, hk2⟩ := hk
        obtain ⟨x, hx⟩ : ∃ x, L[k]? = some x := ⟨_, List.getElem?_eq_getElem hk1⟩
        obtain ⟨b, off, rfl, hbl, hc, _⟩ := HL.out.at_ hP.bel hx
        have hok : OMk W x := (HL.out.at_ (Below.refl _ _) hx).choose_spec.choose_spec.2.2.2
        have z0 := hc 0 (by decide)
        have z1 := hc 1 (by decide)
        have z2 := hc 2 (by decide)
        have z3 := hc 3 (by decide)
        have z4 := hc 4 (by decide)
        have z5 := hc 5 (by decide)
        have z6 := hc 6 (by decide)
        simp only [omL, List.getElem?_cons_zero, List.getElem?_cons_succ, Nat.add_zero] at z0 z1 z2 z3 z4 z5 z6
        have hA : Below wr.heap.size wr (wr.alloc (.cells (omL x).toArray 25)) := (Below.refl _ _).alloc (Nat.le_refl _) _
        obtain ⟨S1, hS1, h1, _⟩ := hP.inner hA
        have HX := Lib.hid (Box.new wr 25 (omL x).toArray)
        have HN : Hid (¬ S1 wr.heap.size) := Lib.hid (fun e => by have := (hS1 _ e).1; omega)
        obtain ⟨x0, x1, x2, x3, x4, x5, x6, xl⟩ := om7 HX.out
        have H1 := Lib.hid h1
        have HOK := Lib.hid hok
        clear hA hP h1 hS1 hc hok hx
        have hki : (k : Int) < (L.length : Int) := by omega
        have hki2 : (k : Int) < 60 := by omega
        go_wp2_with fail
        with_reducible refine (cs x _).mono ?_
        rintro e w2 ⟨rfl, hb2⟩
        have h2 := H1.out.later hb2
        have HX2 := Lib.hid (HX.out.later hb2)
        clear hb2 x0 x1 x2 x3 x4 x5 x6 xl z0 z1 z2 z3 z4 z5 z6 H1 HX
        cases hsm : smallB x with
        | false =>
          have HBx := Lib.hid h2.bel
          clear h2
          go_wp2_with fail
          with_reducible refine (live15_c _).mono ?_
          rintro e w3 ⟨rfl, hb3⟩
          go_wp2_with fail
          go_ret
          exact ⟨rfl, HBx.out.trans (hb3.mono HBx.out.size)⟩
        | true =>
          have cv := view_p h2
          have hl2 : wr.heap.size < w2.heap.size := HX2.out.lt
          have HL2 := Lib.hid hl2
          clear h2 hsm
          go_wp2_with fail
          with_reducible refine cv.mono ?_
          rintro e w3 ⟨v3, R3, S3, rfl, hr3, hm3, ha3, hb3, hS3, h3⟩
          clear cv hm3
          obtain ⟨A3, c3, rfl⟩ := own_slice hr3
          have hA3 : Below w3.heap.size w3 (w3.alloc (.cells #[.int .i64 G.ph, .int .i64 G.gn, .int .i64 G.nx, .int .i64 G.un, .slice A3 R3.length c3] 38)) := (Below.refl _ _).alloc (Nat.le_refl _) _
          obtain ⟨S4, hS4, h4, _⟩ := h3.inner hA3
          have HX4 := Lib.hid ((HX2.out.later hb3).later hA3)
          have HV4 := Lib.hid (Box.new w3 38 #[.int .i64 G.ph, .int .i64 G.gn, .int .i64 G.nx, .int .i64 G.un, .slice A3 R3.length c3])
          obtain ⟨⟨y0, y1, y2, y3, y4⟩, yl, _⟩ := vw5 HV4.out
          obtain ⟨x0, x1, x2, x3, x4, x5, x6, xl⟩ := om7 HX4.out
          have HN4 : Hid (¬ S4 wr.heap.size ∧ ¬ S4 w3.heap.size) := Lib.hid ⟨fun e => by
            rcases (hS4 _ e).2.2 with e | e
            · rcases (hS3 _ e).2.2 with e | e
              · exact HN.out e
              · have : wr.heap.size + 1 ≤ wr.heap.size := by simpa using e
                omega
            · have := hb3.size
              have := HL2.out
              omega, fun e => by have := (hS4 _ e).1; omega⟩
          have HL3 : Hid (wr.heap.size < w3.heap.size) := Lib.hid (by have := hb3.size; have := HL2.out; omega)
          obtain ⟨⟨g0, g1⟩, ⟨k0, k1⟩, _⟩ := h4.gn
          have cst : Calls Try.prog 19 #[.pointer (some ⟨p, 0, none⟩), .pointer (some ⟨w1.heap.size, 0, none⟩), .agg #[.int .i64 x.do_, .int .i64 x.m, .slice x.TA x.T.length x.tc, .int .i64 x.gen, .slice x.PA x.P.length x.pc, .bool x.rnd, .int .i64 x.now]] (w3.alloc (.cells #[.int .i64 G.ph, .int .i64 G.gn, .int .i64 G.nx, .int .i64 G.un, .slice A3 R3.length c3] 38)) (StG W (w3.alloc (.cells #[.int .i64 G.ph, .int .i64 G.gn, .int .i64 G.nx, .int .i64 G.un, .slice A3 R3.length c3] 38)) S4 p w1.heap.size (cc + 4) (stepG x K.gn G)) := step_c h4 (by omega) x HOK.out
          have hup := Up.step x K.gn G
          generalize stepG x K.gn G = G' at *
          have HUP := Lib.hid hup
          have HG := Lib.hid (And.intro g0 g1)
          clear hA3 h3 h4 hS4 hS3 hb3 hr3 ha3 HX2 hl2 k0 k1 hup g0 g1 HN
          go_wp2_with fail
          with_reducible refine cst.mono ?_
          rintro e w5 ⟨⟨b5, rfl⟩, K', h5⟩
          have HX5 := Lib.hid (HX4.out.off h5.off HN4.out.1)
          have HV5 := Lib.hid (HV4.out.off h5.off HN4.out.2)
          have cv := view_p h5
          clear cst y0 y1 y2 y3 y4 yl x0 x1 x2 x3 x4 x5 x6 xl HX4 HV4 h5
          go_wp2_with fail
          with_reducible refine cv.mono ?_
          rintro e w6 ⟨v6, R6, S6, rfl, hr6, hm6, ha6, hb6, hS6, h6⟩
          clear cv hm6
          obtain ⟨A6, c6, rfl⟩ := own_slice hr6
          have hA6 : Below w6.heap.size w6 (w6.alloc (.cells #[.int .i64 G'.ph, .int .i64 G'.gn, .int .i64 G'.nx, .int .i64 G'.un, .slice A6 R6.length c6] 38)) := (Below.refl _ _).alloc (Nat.le_refl _) _
          obtain ⟨S6a, hS6a, h6a, _⟩ := h6.inner hA6
          have HN6 : Hid (¬ S6a wr.heap.size ∧ ∀ j, S6a j → j < w6.heap.size) := Lib.hid ⟨fun e => by
            have hl3 := HL3.out
            rcases (hS6a _ e).2.2 with e | e
            · rcases (hS6 _ e).2.2 with e | e
              · exact HN4.out.1 e
              · have : w3.heap.size + 1 ≤ wr.heap.size := by simpa using e
                omega
            · have h9 := (HX5.out.later hb6).lt
              omega, fun j hj => (hS6a j hj).1⟩
          have HX6 := Lib.hid ((HX5.out.later hb6).later hA6)
          have HV6 := (HV5.out.later hb6).later hA6
          have HI6 := Lib.hid (Box.new w6 38 #[.int .i64 G'.ph, .int .i64 G'.gn, .int .i64 G'.nx, .int .i64 G'.un, .slice A6 R6.length c6])
          obtain ⟨⟨y0, y1, y2, y3, y4⟩, yl, _⟩ := vw5 HV6
          obtain ⟨⟨x0, x1, x2, x3, x4⟩, xl, _⟩ := vw5 HI6.out
          have H6 := Lib.hid (view_p h6a)
          clear h6 hA6 hS6 hS6a HN4 hb6 hr6 ha6 HX5 HV5 HV6 h6a
          have hcs : (G'.ph == 2) = false ∨ ((G'.ph == 2) = true ∧ (G.ph != 2) = false) ∨ ((G'.ph == 2) = true ∧ (G.ph != 2) = true ∧ (G'.gn == G.gn) = false) := by
            cases e1 : (G'.ph == 2) with
            | false => exact .inl rfl
            | true =>
              cases e2 : (G.ph == 2) with
              | true => exact .inr (.inl ⟨rfl, by unfold bne; rw [e2]; rfl⟩)
              | false =>
                refine .inr (.inr ⟨rfl, by unfold bne; rw [e2]; rfl, ?_⟩)
                rcases HUP.out.sy (by simpa using e1) with e | e
                · rw [e] at e2; cases e2
                · exact beq_eq_false_iff_ne.2 (by omega)
          have hu1 : ¬ G'.gn < G.gn := by have := HUP.out.lo; omega
          have hu2 : ¬ G.gn + 2 < G'.gn := by have := HUP.out.hi; omega
          obtain ⟨hu3, hu4⟩ := HG.out
          rcases hcs with e1 | ⟨e1, e2⟩ | ⟨e1, e2, e3⟩
          all_goals
            go_wp2_with fail
            first | clear e3 | skip
            first | clear e2 | skip
            clear e1 hu1 hu2 y0 y1 y2 y3 y4 yl x0 x1 x2 x3 x4 xl
            with_reducible refine H6.out.mono ?_
            rintro e w7 ⟨v7, R7, S7, rfl, hr7, hm7, ha7, hb7, hS7, h7⟩
            obtain ⟨A7, c7, rfl⟩ := own_slice hr7
            have hA7 : Below w7.heap.size w7 (w7.alloc (.cells #[.int .i64 G'.ph, .int .i64 G'.gn, .int .i64 G'.nx, .int .i64 G'.un, .slice A7 R7.length c7] 38)) := (Below.refl _ _).alloc (Nat.le_refl _) _
            obtain ⟨S8, hS8, h8, _⟩ := h7.inner hA7
            have HX8 := Lib.hid ((HX6.out.later hb7).later hA7)
            have HI8 := Lib.hid ((HI6.out.later hb7).later hA7)
            have HV8 := Lib.hid (Box.new w7 38 #[.int .i64 G'.ph, .int .i64 G'.gn, .int .i64 G'.nx, .int .i64 G'.un, .slice A7 R7.length c7])
            have HR8 := Lib.hid (own_below hr7 hA7)
            have HQ8 : Hid (¬ S8 wr.heap.size ∧ ∀ j, S8 j → j < w6.heap.size) := by
              have key : ∀ j, S8 j → S6a j := fun j hj => by
                have h9 := hS8 j hj
                rcases h9.2.2 with e | e
                · have h10 := hS7 j e
                  rcases h10.2.2 with e2 | e2
                  · exact e2
                  · omega
                · omega
              exact Lib.hid ⟨fun e => HN6.out.1 (key _ e), fun j hj => HN6.out.2 j (key j hj)⟩
            have HL7 : Hid (w6.heap.size < w7.heap.size) := Lib.hid (by have := hb7.size; simp at this; omega)
            obtain ⟨⟨x0, x1, x2, x3, x4⟩, xl, _⟩ := vw5 HI8.out
            obtain ⟨y0, y1, y2, y3, y4, y5, y6, yl⟩ := om7 HX8.out
            have h8' := Lib.hid h8
            obtain ⟨hu3, hu4⟩ := h8.gn.1
            clear h8 hA7 hS8 h7 hr7 hb7 hS7 HX6 HI6 H6 HN6
            go_wp2_with fail
            obtain ⟨so1, so2⟩ := sync_old (m := 0) (now := max x.now 0) (G := G') (gen := G'.gn + 1) (by omega) x.P x.rnd
            obtain ⟨bo1, bo2⟩ := beat_old (m := 1) (now := max x.now 0) (G := G') (gen := G'.gn - 1) (by omega)
            have cS := sync_p h8'.out HOK.out 0 (G'.gn + 1) (max x.now 0) x.pc x.rnd
            rw [so1] at cS
            with_reducible refine cS.mono ?_
            rintro e w9 ⟨A9, c9, rfl, _, h9⟩
            have HX9 := Lib.hid (HX8.out.off h9.off HQ8.out.1)
            have HI9 := Lib.hid (HI8.out.off h9.off (fun e => by have := HQ8.out.2 _ e; omega))
            have HV9 := Lib.hid (HV8.out.off h9.off (fun e => by have := HQ8.out.2 _ e; have := HL7.out; omega))
            have HR9 := Lib.hid (own_off HR8.out h9.off (fun j hj e => by have := HQ8.out.2 _ e; have := (HR8.out.lt j hj).1; simp at this; omega))
            have cB := beat_p h9 1 (G'.gn - 1) (max x.now 0)
            rw [bo1] at cB
            generalize syncE 0 (G'.gn + 1) x.P (max x.now 0) G' = eS at *
            generalize beatE 1 (G'.gn - 1) (max x.now 0) G' = eB at *
            have so3 : (eS == 0) = false := beq_eq_false_iff_ne.2 so2
            have bo3 : (eB == 0) = false := beq_eq_false_iff_ne.2 bo2
            clear x0 x1 x2 x3 x4 xl y0 y1 y2 y3 y4 y5 y6 yl cS h8' h9 so1 so2 bo1 bo2
            obtain ⟨⟨x0, x1, x2, x3, x4⟩, xl, _⟩ := vw5 HI9.out
            obtain ⟨y0, y1, y2, y3, y4, y5, y6, yl⟩ := om7 HX9.out
            go_wp2_with fail
            with_reducible refine cB.mono ?_
            rintro e w10 ⟨rfl, h10⟩
            have cv := view_p h10
            have hV10 := HV8.out.off h10.off (fun e => by have := HQ8.out.2 _ e; have := HL7.out; omega)
            have hR10 := own_off HR8.out h10.off (fun j hj e => by have := HQ8.out.2 _ e; have := (HR8.out.lt j hj).1; simp at this; omega)
            have HV10 := Lib.hid hV10
            have HR10 := Lib.hid hR10
            clear x0 x1 x2 x3 x4 xl y0 y1 y2 y3 y4 y5 y6 yl HX8 HI8 HV8 HR8 HX9 HI9 HV9 HR9 h10 hV10 hR10 cB HQ8 HL7
            go_wp2_with fail
            with_reducible refine cv.mono ?_
            rintro e w11 ⟨v11, R11, S11, rfl, hr11, hm11, ha11, hb11, hS11, h11⟩
            obtain ⟨A11, c11, rfl⟩ := own_slice hr11
            have hA11 : Below w11.heap.size w11 (w11.alloc (.cells #[.int .i64 G'.ph, .int .i64 G'.gn, .int .i64 G'.nx, .int .i64 G'.un, .slice A11 R11.length c11] 38)) := (Below.refl _ _).alloc (Nat.le_refl _) _
            have HV12 := Lib.hid ((HV10.out.later hb11).later hA11)
            have HR12 := Lib.hid (own_below (own_below HR10.out hb11) hA11)
            have HI12 := Lib.hid (Box.new w11 38 #[.int .i64 G'.ph, .int .i64 G'.gn, .int .i64 G'.nx, .int .i64 G'.un, .slice A11 R11.length c11])
            have HQ12 := Lib.hid (own_below hr11 hA11)
            have h12 := Lib.hid (h11.later hA11)
            have HLE : Hid (R7.length = R11.length ∧ R7.length ≤ 100 ∧ R7.map MV.d = R11.map MV.d) := Lib.hid (by
              have e1 : R7.map MV.d = R11.map MV.d := by rw [ha7, ha11]
              have e2 := congrArg List.length e1
              rw [List.length_map, List.length_map] at e2
              have e3 := congrArg List.length ha7
              rw [List.length_map] at e3
              have := h11.gn.2.2.1
              exact ⟨e2, by omega, e1⟩)
            obtain ⟨⟨x0, x1, x2, x3, x4⟩, xl, _⟩ := vw5 HV12.out
            obtain ⟨⟨y0, y1, y2, y3, y4⟩, yl, _⟩ := vw5 HI12.out
            have hle := HLE.out.1
            clear cv hr11 hm11 ha11 ha7 hm7 hb11 hS11 h11 hA11 HV10 HR10
            go_wp2_with fail
            have HC := Lib.hid (And.intro hcc (And.intro hk1 hk2))
            clear hcc hk1 hk2 hki hki2 hkL hk60 hle hu3 hu4 so3 bo3
            generalize w11.alloc (.cells #[.int .i64 G'.ph, .int .i64 G'.gn, .int .i64 G'.nx, .int .i64 G'.un, .slice A11 R11.length c11] 38) = wB at *
            go_loopw [19] (fun j w' => ∃ m q : Nat, j = .int .i64 m ∧ m ≤ R7.length ∧ w' = wB.drewN q) (fun j _ => R7.length - (intOf j).toNat)
            case atStart => exact ⟨0, 0, rfl, Nat.zero_le _, rfl⟩
            case round =>
              obtain ⟨m, q9, rfl, hle, rfl⟩ := hrel
              have hl9 := HLE.out.2.1
              by_cases hm : m < R7.length
              · obtain ⟨a7, e7⟩ : ∃ x, R7[m]? = some x := ⟨_, List.getElem?_eq_getElem hm⟩
                obtain ⟨a11, e11⟩ : ∃ x, R11[m]? = some x := ⟨_, List.getElem?_eq_getElem (by rw [← HLE.out.1]; exact hm)⟩
                have hd : a7.d = a11.d := by
                  have h1 : (R7.map MV.d)[m]? = some a7.d := by rw [List.getElem?_map, e7]; rfl
                  have h2 : (R11.map MV.d)[m]? = some a11.d := by rw [List.getElem?_map, e11]; rfl
                  rw [HLE.out.2.2, h2] at h1
                  injection h1 with h1
                  exact h1.symm
                obtain ⟨g7, rfl, hg7, _, _, hc7⟩ := own_in HR12.out (by omega)
                obtain ⟨g11, rfl, hg11, _, _, hc11⟩ := own_in HQ12.out (by rw [← HLE.out.1]; omega)
                have u7 := hc7 _ _ (mvR_at e7).2.2.1
                have u11 := hc11 _ _ (mvR_at e11).2.2.1
                rw [← hd] at u11
                clear hc7 hc11 e7 e11 hd
                have hmi : (m : Int) < (R7.length : Int) := by omega
                have hmi2 : (m : Int) < (R11.length : Int) := by have := HLE.out.1; omega
                have hm0 : (0 : Int) ≤ (m : Int) := by omega
                go_wp2_with fail
                go_quiet (fail)
                go_wp2_with fail
                go_roundw
                case rel => exact ⟨m + 1, _, by go_num, hm, by first | exact World.drewN_drewN _ _ _ | rfl⟩
                case measure => simp [intOf]; omega
              · have hmi : ¬ (m : Int) < (R7.length : Int) := by omega
                obtain ⟨hc1, hc2, hc3⟩ := HC.out
                go_wp2_with fail
                go_roundw
                case rel => exact ⟨k + 1, cc + 4, G', K', _, _, by go_num, by omega, by omega, by omega, h12.out.later (below_drewN (Below.refl _ _) _)⟩
                case measure =>
                  simp [intOf]
                  omega
      · have hstop : ¬ ((k : Int) < (L.length : Int)) ∨ (k : Int) < (L.length : Int) ∧ ¬ ((k : Int) < 60) := by omega
        have HBx := Lib.hid hP.bel
        clear hk hcc hk60 hkL hP
        rcases hstop with hs | ⟨hs1, hs2⟩
        all_goals
          go_wp2_with fail
          with_reducible refine (live15_c _).mono ?_
          rintro e w3 ⟨rfl, hb3⟩
          go_wp2_with fail
          go_ret
          exact ⟨rfl, HBx.out.trans (hb3.mono HBx.out.size)⟩
end Go.Proofs.Ythbcklamhoekmaa
