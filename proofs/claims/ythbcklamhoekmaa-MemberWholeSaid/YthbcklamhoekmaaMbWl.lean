/- member: MemberWhole, walked. No condition. -/
import Derived.Test.YthbcklamhoekmaaMbPs
import Derived.Test.YthbcklamhoekmaaMbSd
import Derived.Test.YthbcklamhoekmaaMbLiv
import Derived.BigQuiet
import Derived.Deep.Cut
import Derived.Deep.CutRange
namespace Go.Proofs.Ythbcklamhoekmaa
open Go.RowKit
set_option linter.unusedVariables false
theorem PR.start {W w : World} {p : Nat} {s r : Int} (h : GO W w p (.slice none 0 0) 0 (newG s r)) (hs : 1 ≤ s ∧ s ≤ 100000) (hr : 1 ≤ r ∧ r ≤ 100000) : Px W (w.alloc (.cells #[.int .i64 s, .int .i64 r, .int .i64 0, .int .i64 0, .int .i64 0, .int .i64 0, .slice none 0 0] 48)) (fun j => j = p ∨ j = w.heap.size) p w.heap.size 0 (newG s r) (newG s r) (w.alloc (.cells #[.int .i64 s, .int .i64 r, .int .i64 0, .int .i64 0, .int .i64 0, .int .i64 0, .slice none 0 0] 48)) := by
  refine ⟨.slice none 0 0, .slice none 0 0, ⟨h.later ((Below.refl _ _).alloc (Nat.le_refl _) _), ⟨[], ⟨Box.new w 48 #[.int .i64 s, .int .i64 r, .int .i64 0, .int .i64 0, .int .i64 0, .int .i64 0, .slice none 0 0], h.bel.size, World.ownsRow_nil _ _ _ _, (fun x hx => by cases hx), rfl⟩⟩, h.q, h.n⟩, Off.refl _ _, fun j hj => ?_⟩
  rcases hj with (rfl | e) | (rfl | e)
  · exact .inl (.inl rfl)
  · cases e
  · exact .inl (.inr rfl)
  · cases e
set_option maxHeartbeats 16000000 in
set_option maxRecDepth 100000 in
theorem memberWhole_walk (s r : Int) (A : Option Addr) (c : Nat) (L : List OM) (W : World) (_h0 : (Lit.int .i64 s).wf = true) (_h1 : (Lit.int .i64 r).wf = true) (hL : OmsIn W A L) : Calls Try.prog 5 #[.int .i64 s, .int .i64 r, .slice A L.length c] W (Good W (.bool true)) := by
  have HL := Lib.hid hL
  clear hL _h0 _h1
  cases hin : (witB s 1 100000 && witB r 1 100000) with
  | false =>
    have cn := new_no s r hin W
    go_enter Try.func5, Try.ntmps5
    go_wp2_with fail
    with_reducible refine cn.mono ?_
    rintro e w1 ⟨rfl, rfl⟩
    go_wp2_with fail
    with_reducible refine (live15_c _).mono ?_
    rintro e w2 ⟨rfl, hb2⟩
    go_wp2_with fail
    go_ret
    exact ⟨rfl, hb2⟩
  | true =>
    have hb : (1 ≤ s ∧ s ≤ 100000) ∧ 1 ≤ r ∧ r ≤ 100000 := by
      unfold witB at hin
      simp only [Bool.and_eq_true, decide_eq_true_eq] at hin
      exact hin
    have cn := new_ok s r hin W
    go_enter Try.func5, Try.ntmps5
    go_wp2_with fail
    with_reducible refine cn.mono ?_
    rintro e w1 ⟨rfl, hw1⟩
    have h1 : GO W w1 W.heap.size (.slice none 0 0) 0 (newG s r) := by rw [hw1]; exact GO.new (Below.refl _ _) hb.1 hb.2
    have H2 := Lib.hid (PR.start h1 hb.1 hb.2)
    clear hw1 cn h1 hin
    have cs := fun (x : OM) w => (show Calls Try.prog 18 #[.agg #[.int .i64 x.do_, .int .i64 x.m, .slice x.TA x.T.length x.tc, .int .i64 x.gen, .slice x.PA x.P.length x.pc, .bool x.rnd, .int .i64 x.now]] w (fun e w' => e = .returned (.bool (smallB x)) ∧ Below w.heap.size w w') from small_c x w)
    go_wp2_with fail
    have fd0 := fieldV0
    go_loopw [10, 11] (fun tv j wr => ∃ (k : Nat) (cc : Int) (G K : GD) (w0 : World) (S : Nat → Prop) (T : List TX) (TA : Option Addr) (tc : Nat), tv = .slice TA T.length tc ∧ j = .int .i64 k ∧ k ≤ 60 ∧ k ≤ L.length ∧ cc ≤ 4 * k ∧ TpIn W TA T ∧ T.length ≤ 30 ∧ (G.ph = 3 → ShD T (G.L.map tpD)) ∧ Px W w0 S W.heap.size w1.heap.size cc G K wr) (fun _ j _ => 60 - (intOf j).toNat)
    case atStart => exact ⟨0, 0, _, _, _, _, [], none, 0, rfl, rfl, by omega, by omega, by omega, TpIn.nil _ _, by simp, (fun e => by cases e), H2.out⟩
    case round =>
      obtain ⟨k, cc, G, K, w0, S, T, TA, tc, rfl, rfl, hk60, hkL, hcc, hT, hTl, hSh, hP⟩ := hrel
      clear H2
      generalize W.heap.size = p at *
      by_cases hk : k < L.length ∧ k < 60
      · obtain ⟨hk1, hk2⟩ := hk
        obtain ⟨x, hx⟩ : ∃ x, L[k]? = some x := ⟨_, List.getElem?_eq_getElem hk1⟩
        obtain ⟨b, off, rfl, hbl, hc, _⟩ := HL.out.at_ hP.bel hx
        have hok : OMk W x := (HL.out.at_ (Below.refl _ _) hx).choose_spec.choose_spec.2.2.2
        have z0 := hc 0 (by decide)
        have z1 := hc 1 (by decide)
        have z2 := hc 2 (by decide)
        have z3 := hc 3 (by decide)
        have z4 := hc 4 (by decide)
        have z5 := hc 5 (by decide)
        have z6 := hc 6 (by decide)
        simp only [omL, List.getElem?_cons_zero, List.getElem?_cons_succ, Nat.add_zero] at z0 z1 z2 z3 z4 z5 z6
        have hA : Below wr.heap.size wr (wr.alloc (.cells (omL x).toArray 25)) := (Below.refl _ _).alloc (Nat.le_refl _) _
        obtain ⟨S1, hS1, h1, _⟩ := hP.inner hA
        have HX := Lib.hid (Box.new wr 25 (omL x).toArray)
        have HN : Hid (¬ S1 wr.heap.size) := Lib.hid (fun e => by have := (hS1 _ e).1; omega)
        obtain ⟨x0, x1, x2, x3, x4, x5, x6, xl⟩ := om7 HX.out
        have H1 := Lib.hid h1
        have HOK := Lib.hid hok
        have HT := Lib.hid hT
        have HSh := Lib.hid hSh
        have HC := Lib.hid (And.intro hcc (And.intro hk1 (And.intro hk2 hTl)))
        clear hA hP h1 hS1 hc hok hx hT hSh
        have hki : (k : Int) < (L.length : Int) := by omega
        have hki2 : (k : Int) < 60 := by omega
        go_wp2_with fail
        with_reducible refine (cs x _).mono ?_
        rintro e w2 ⟨rfl, hb2⟩
        have h2 := H1.out.later hb2
        have HX2 := Lib.hid (HX.out.later hb2)
        clear hb2 x0 x1 x2 x3 x4 x5 x6 xl z0 z1 z2 z3 z4 z5 z6 H1 HX
        cases hsm : smallB x with
        | false =>
          have HBx := Lib.hid h2.bel
          clear h2
          go_wp2_with fail
          with_reducible refine (live15_c _).mono ?_
          rintro e w3 ⟨rfl, hb3⟩
          go_wp2_with fail
          go_ret
          exact ⟨rfl, HBx.out.trans (hb3.mono HBx.out.size)⟩
        | true =>
          have HPL : Hid (x.P.length ≤ 30) := Lib.hid (by
            unfold smallB at hsm
            simp only [Bool.and_eq_true, decide_eq_true_eq] at hsm
            exact hsm.2)
          have cv := view_p h2
          have hl2 : wr.heap.size < w2.heap.size := HX2.out.lt
          have HL2 := Lib.hid hl2
          clear h2 hsm
          go_wp2_with fail
          with_reducible refine cv.mono ?_
          rintro e w3 ⟨v3, R3, S3, rfl, hr3, hm3, ha3, hb3, hS3, h3⟩
          clear cv hm3
          obtain ⟨A3, c3, rfl⟩ := own_slice hr3
          have HX4 := Lib.hid (HX2.out.later hb3)
          obtain ⟨x0, x1, x2, x3, x4, x5, x6, xl⟩ := om7 HX4.out
          have HN4 : Hid (¬ S3 wr.heap.size) := Lib.hid (fun e => by
              rcases (hS3 _ e).2.2 with e | e
              · exact HN.out e
              · have : wr.heap.size + 1 ≤ wr.heap.size := by simpa using e
                omega)
          obtain ⟨⟨g0, g1⟩, ⟨k0, k1⟩, _⟩ := h3.gn
          have cst : Calls Try.prog 19 #[.pointer (some ⟨p, 0, none⟩), .pointer (some ⟨w1.heap.size, 0, none⟩), .agg #[.int .i64 x.do_, .int .i64 x.m, .slice x.TA x.T.length x.tc, .int .i64 x.gen, .slice x.PA x.P.length x.pc, .bool x.rnd, .int .i64 x.now]] w3 (StG W w3 S3 p w1.heap.size (cc + 4) (stepG x K.gn G)) := step_c h3 (by omega) x HOK.out
          have HST := Lib.hid (fun h => step_sh (x := x) (gn := K.gn) HSh.out h)
          generalize stepG x K.gn G = G' at *
          clear h3 hS3 hb3 hr3 ha3 HX2 hl2 k0 k1 g0 g1 HN HSh
          go_wp2_with fail
          with_reducible refine cst.mono ?_
          rintro e w5 ⟨⟨b5, rfl⟩, K', h5⟩
          have HX5 := Lib.hid (HX4.out.off h5.off HN4.out)
          have cv := view_p h5
          clear cst x0 x1 x2 x3 x4 x5 x6 xl HX4 h5 HN4
          go_wp2_with fail
          with_reducible refine cv.mono ?_
          rintro e w6 ⟨v6, R, S6, rfl, hr6, hm6, ha6, hb6, hS6, h6⟩
          clear cv
          obtain ⟨A6, c6, rfl⟩ := own_slice hr6
          have hA6 : Below w6.heap.size w6 (w6.alloc (.cells #[.int .i64 G'.ph, .int .i64 G'.gn, .int .i64 G'.nx, .int .i64 G'.un, .slice A6 R.length c6] 38)) := (Below.refl _ _).alloc (Nat.le_refl _) _
          have H6 := Lib.hid (h6.later hA6)
          have HX6 := Lib.hid ((HX5.out.later hb6).later hA6)
          have HI6 := Lib.hid (Box.new w6 38 #[.int .i64 G'.ph, .int .i64 G'.gn, .int .i64 G'.nx, .int .i64 G'.un, .slice A6 R.length c6])
          have HR6 := Lib.hid (own_below hr6 hA6)
          have HM6 := Lib.hid (fun x hx => (hm6 x hx).later hA6)
          have HRl : Hid (R.length ≤ 20 ∧ ∀ x ∈ R, TOk x.d.T ∧ POk x.d.P) := Lib.hid (by
            have h9 := h6.gn.2.2
            rw [← ha6, List.length_map] at h9
            exact ⟨h9.1, fun x hx => h9.2 x.d (List.mem_map.2 ⟨x, hx, rfl⟩)⟩)
          have HZ : Hid (G'.L.map tpD = R.map (fun x => tpD x.d)) := Lib.hid (by rw [← ha6, List.map_map]; rfl)
          obtain ⟨⟨y0, y1, y2, y3, y4⟩, yl, _⟩ := vw5 HI6.out
          obtain ⟨x0, x1, x2, x3, x4, x5, x6, xl⟩ := om7 HX6.out
          clear h6 hA6 hS6 hb6 hr6 ha6 hm6 HX5
          obtain ⟨hc1, hc2, hc3, hc4⟩ := HC.out
          by_cases hp3 : G'.ph = 3
          · have b1 : (G'.ph != 3) = false := by rw [hp3]; rfl
            have hst := HST.out hp3
            have HP3 := Lib.hid hp3
            clear hp3 HST
            rw [HZ.out] at hst
            go_upto_if 73 with fail
            go_cut [10] from 72 to 75 (fun v wx => ∃ (T2 : List TX) (TA2 : Option Addr) (tc2 : Nat), v = .slice TA2 T2.length tc2 ∧ TpIn W TA2 T2 ∧ T2.length ≤ 30 ∧ ShD T2 (R.map fun x => tpD x.d) ∧ w6.alloc (.cells #[.int .i64 G'.ph, .int .i64 G'.gn, .int .i64 G'.nx, .int .i64 G'.un, .slice A6 R.length c6] 38) = wx)
            case first =>
              by_cases hq3 : G.ph = 3
              · have b2 : (G.ph != 3) = false := by rw [hq3]; rfl
                rw [if_pos hq3] at hst
                have HS2 := Lib.hid hst
                clear hst hq3
                go_wp2_with fail
                go_meet
                exact ⟨T, TA, tc, rfl, HT.out, hc4, HS2.out, rfl⟩
              · have b2 : (G.ph != 3) = true := by unfold bne; rw [beq_eq_false_iff_ne.2 hq3]; rfl
                rw [if_neg hq3] at hst
                have HS2 := Lib.hid hst
                clear hst hq3
                go_wp2_with fail
                go_meet
                exact ⟨x.P, x.PA, x.pc, rfl, HOK.out.top, HPL.out, HS2.out, rfl⟩
            case rest =>
              obtain ⟨T2, TA2, tc2, rfl, hTw, hT3, hS2, rfl⟩ := hcut
              have HTI := Lib.hid (And.intro (hTw.below H6.out.bel) hT3)
              have HTW := Lib.hid hTw
              have HS2 := Lib.hid hS2
              clear hst hTw hT3 hS2 HT x0 x1 x2 x3 x4 x5 x6 xl HX6 HOK HPL hc4 b1 hbl
              go_wp2_with fail
              generalize w6.alloc (.cells #[.int .i64 G'.ph, .int .i64 G'.gn, .int .i64 G'.nx, .int .i64 G'.un, .slice A6 R.length c6] 38) = wB at *
              go_loopw [15] (fun j w' => ∃ t q : Nat, j = .int .i64 t ∧ t ≤ T2.length ∧ w' = wB.drewN q) (fun j _ => T2.length - (intOf j).toNat)
              case atStart => exact ⟨0, 0, rfl, Nat.zero_le _, rfl⟩
              case round =>
                obtain ⟨t, q1, rfl, htl, rfl⟩ := hrel
                have hT30 := HTI.out.2
                by_cases ht : t < T2.length
                · obtain ⟨tb, toff, rfl, htb, u0, u1⟩ := HTI.out.1.at_ ht
                  have hti : (t : Int) < (T2.length : Int) := by omega
                  have ht0 : (0 : Int) ≤ (t : Int) := by omega
                  have HO := Lib.hid (HS2.out.one t T2[t] (List.getElem?_eq_getElem ht))
                  generalize T2[t] = tt at *
                  obtain ⟨s0, np⟩ := tt
                  simp only at u0 u1 HO
                  go_wp2_with fail
                  go_loopw [16] (fun j w' => ∃ pp q : Nat, j = .int .i64 pp ∧ pp ≤ 20 ∧ w' = wB.drewN q) (fun j _ => 20 - (intOf j).toNat)
                  case atStart => exact ⟨0, q1, rfl, by omega, rfl⟩
                  case round =>
                    obtain ⟨pp, q2, rfl, hpl, rfl⟩ := hrel
                    by_cases hpc : (pp : Int) < np ∧ pp < 20
                    · obtain ⟨hp1, hp2⟩ := hpc
                      have hp2i : (pp : Int) < 20 := by omega
                      obtain ⟨f, hf⟩ : ∃ f : Nat → Nat, f = fun k => cntP (s0, (pp : Int)) (pAt (R.map fun x => tpD x.d) k) := ⟨_, rfl⟩
                      have HSUM : Hid (sumTo f R.length = if (R.any fun x => hasB x.d.T s0) then 1 else 0) := Lib.hid (by
                        have h1 := HO.out pp (by omega)
                        rw [List.length_map, ← hf, List.any_map] at h1
                        exact h1)
                      have HSB : Hid (∀ m, m ≤ R.length → sumTo f m ≤ 1) := Lib.hid (fun m hm => by
                        have h1 := sumTo_mono f hm
                        rw [HSUM.out] at h1
                        refine Nat.le_trans h1 ?_
                        split <;> omega)
                      have HF : Hid (∀ m x, R[m]? = some x → f m = cntP (s0, (pp : Int)) x.d.P) := Lib.hid (fun m x hx => by
                        rw [hf]
                        show cntP _ (pAt _ m) = _
                        unfold pAt
                        rw [List.getElem?_map, hx]
                        rfl)
                      clear hf
                      go_wp2_with fail
                      go_loopw [17, 18, 19] (fun nv wv j w' => ∃ m q : Nat, j = .int .i64 m ∧ m ≤ R.length ∧ nv = .int .i64 (sumTo f m : Nat) ∧ wv = .bool ((R.take m).any fun x => hasB x.d.T s0) ∧ w' = wB.drewN q) (fun _ _ j _ => R.length - (intOf j).toNat)
                      case atStart => exact ⟨0, q2, rfl, Nat.zero_le _, rfl, rfl, rfl⟩
                      case round =>
                        obtain ⟨m, q3, rfl, hml, rfl, rfl, rfl⟩ := hrel
                        have hR20 := HRl.out.1
                        by_cases hm : m < R.length
                        · obtain ⟨a, hx⟩ : ∃ a, R[m]? = some a := ⟨_, List.getElem?_eq_getElem hm⟩
                          have hmem := List.mem_of_getElem? hx
                          have hfm := HF.out m a hx
                          have hb1 := HSB.out (m + 1) hm
                          have HAN : Hid (((R.take (m + 1)).any fun x => hasB x.d.T s0) = (((R.take m).any fun x => hasB x.d.T s0) || hasB a.d.T s0)) := Lib.hid (by rw [List.take_add_one, hx, List.any_append]; simp)
                          have hhas := HS2.out.has m (tpD a.d) (by rw [List.getElem?_map, hx]; rfl)
                          have hok := HM6.out a hmem
                          obtain ⟨⟨hTm, _⟩, hPm, _⟩ := HRl.out.2 a hmem
                          obtain ⟨g6, rfl, hg6, _, _, hc6⟩ := own_in HR6.out (by omega)
                          have r1 := hc6 _ _ (mvR_at hx).2.1
                          have r4 := hc6 _ _ (mvR_at hx).2.2.2.2
                          obtain ⟨tA, tc3, et⟩ := own_slice hok.tr
                          obtain ⟨pA, pc3, ep⟩ := own_slice hok.pr
                          have hsin := (str_in hok.tr rfl).2
                          have hpin := prt_in (by have := hok.pr; rw [ep] at this; exact this)
                          rw [et] at hsin r1
                          rw [ep] at r4
                          have HSN : Hid (sumTo f (m + 1) = sumTo f m + cntP (s0, (pp : Int)) a.d.P) := Lib.hid (by rw [sumTo, hfm])
                          have hb2 : sumTo f m + cntP (s0, (pp : Int)) a.d.P ≤ 1 := by rw [← HSN.out]; exact hb1
                          obtain ⟨⟨n9, Tm, um, jm, Pm⟩, tv, pv⟩ := a
                          dsimp only at *
                          unfold tpD at hhas
                          have HTm := Lib.hid hsin
                          have HPm := Lib.hid hpin
                          have HHS := Lib.hid hhas
                          have HB2 := Lib.hid hb2
                          have hmi : (m : Int) < (R.length : Int) := by omega
                          have hm0 : (0 : Int) ≤ (m : Int) := by omega
                          clear hx hmem hfm hb1 hhas hok hc6 et ep hsin hpin hb2
                          generalize sumTo f m = n0 at *
                          generalize ((R.take m).any fun x => hasB x.d.T s0) = a0 at *
                          generalize hi5 : m * 5 = i5 at *
                          go_wp2_with fail
                          go_loopw [20, 21] (fun wv j w' => ∃ jj q : Nat, j = .int .i64 jj ∧ jj ≤ Tm.length ∧ wv = .bool (hasB (Tm.take jj) s0) ∧ w' = wB.drewN q) (fun _ j _ => Tm.length - (intOf j).toNat)
                          case atStart => exact ⟨0, q3, rfl, Nat.zero_le _, rfl, rfl⟩
                          case round =>
                            obtain ⟨jj, q4, rfl, hjl, rfl, rfl⟩ := hrel
                            by_cases hj : jj < Tm.length
                            · obtain ⟨sb, so, rfl, hsl, e0⟩ := HTm.out.at_ hj
                              have HTK := Lib.hid (hasB_take (s := s0) (List.getElem?_eq_getElem hj))
                              have hji : (jj : Int) < (Tm.length : Int) := by omega
                              have hj0 : (0 : Int) ≤ (jj : Int) := by omega
                              generalize Tm[jj] = sj at *
                              cases hh : hasB (Tm.take jj) s0 with
                              | true =>
                                have HN2 : Hid (hasB (Tm.take (jj + 1)) s0 = true) := Lib.hid (by rw [HTK.out, hh]; rfl)
                                clear hh
                                go_wp2_with fail
                                go_quiet (fail)
                                go_wp2_with fail
                                go_roundw
                                case rel => exact ⟨jj + 1, _, by go_num, hj, by rw [HN2.out], by first | exact World.drewN_drewN _ _ _ | rfl⟩
                                case measure => simp [intOf]; omega
                              | false =>
                                have HN2 : Hid (hasB (Tm.take (jj + 1)) s0 = (sj.toList == s0.toList)) := Lib.hid (by rw [HTK.out, hh, beq_str]; rfl)
                                clear hh
                                generalize hq : (sj.toList == s0.toList) = bq at *
                                go_wp2_with fail
                                go_quiet (fail)
                                go_wp2_with fail
                                go_roundw
                                case rel => exact ⟨jj + 1, _, by go_num, hj, by rw [HN2.out], by first | exact World.drewN_drewN _ _ _ | rfl⟩
                                case measure => simp [intOf]; omega
                            · have hjj : jj = Tm.length := by omega
                              subst hjj
                              rw [List.take_length]
                              have hji : ¬ (Tm.length : Int) < (Tm.length : Int) := by omega
                              generalize hhb : hasB Tm s0 = hb at *
                              have HHB := Lib.hid hhb
                              clear hhb HTm
                              cases a0
                              all_goals
                                go_wp2_with fail
                                go_loopw [17, 22] (fun nv j w' => ∃ jj q : Nat, j = .int .i64 jj ∧ jj ≤ Pm.length ∧ nv = .int .i64 (n0 + cntP (s0, (pp : Int)) (Pm.take jj) : Nat) ∧ w' = wB.drewN q) (fun _ j _ => Pm.length - (intOf j).toNat)
                                case atStart => exact ⟨0, q4, rfl, Nat.zero_le _, rfl, rfl⟩
                                case round =>
                                  obtain ⟨jj, q5, rfl, hjl, rfl, rfl⟩ := hrel
                                  by_cases hj : jj < Pm.length
                                  · obtain ⟨pb, po, rfl, hsl, e0, e1⟩ := HPm.out.at_ hj
                                    have HTK := Lib.hid (cntP_take (x := (s0, (pp : Int))) (List.getElem?_eq_getElem hj))
                                    have HYM := Lib.hid (HHS.out _ (List.getElem_mem hj))
                                    have hb9 : n0 + cntP (s0, (pp : Int)) (Pm.take (jj + 1)) ≤ 1 := by have := cnt_le (s0, (pp : Int)) Pm (jj + 1); have := HB2.out; omega
                                    have hji : (jj : Int) < (Pm.length : Int) := by omega
                                    have hj0 : (0 : Int) ≤ (jj : Int) := by omega
                                    generalize Pm[jj] = y at *
                                    obtain ⟨ys, yi⟩ := y
                                    simp only at e0 e1 HYM
                                    have hgd := fun (a b : Operand) w => part_guard .eql a b #[.string ys, .int .i64 yi] #[.string s0, .int .i64 pp] w
                                    have heq := fun w => part_eql ys s0 yi pp w
                                    cases hbq : (ys.toList == s0.toList && yi == (pp : Int)) with
                                    | true =>
                                      simp only [hbq] at heq
                                      have hxy : (ys, yi) = (s0, (pp : Int)) := by
                                        rw [Bool.and_eq_true] at hbq
                                        have h1 := hbq.1
                                        rw [beq_str] at h1
                                        rw [of_decide_eq_true h1, eq_of_beq hbq.2]
                                      have HN2 : Hid (n0 + cntP (s0, (pp : Int)) (Pm.take (jj + 1)) = n0 + cntP (s0, (pp : Int)) (Pm.take jj) + 1) := Lib.hid (by rw [HTK.out, if_pos hxy]; rfl)
                                      have hhb : hb = true := by
                                        have h1 := HYM.out
                                        injection hxy with h2 h3
                                        rw [h2, HHB.out] at h1
                                        exact h1
                                      rw [HN2.out] at hb9
                                      clear hbq hxy
                                      subst hhb
                                      generalize n0 + cntP (s0, (pp : Int)) (Pm.take jj) = nn at *
                                      go_wp2_with fail
                                      go_quiet (fail)
                                      go_wp2_with fail
                                      go_roundw
                                      case rel => exact ⟨jj + 1, _, by go_num, hj, by rw [HN2.out]; go_num, by first | exact World.drewN_drewN _ _ _ | rfl⟩
                                      case measure => simp [intOf]; omega
                                    | false =>
                                      simp only [hbq] at heq
                                      have hxy : ¬ (ys, yi) = (s0, (pp : Int)) := fun e => by
                                        injection e with h2 h3
                                        rw [h2, h3, beq_self_eq_true, beq_self_eq_true] at hbq
                                        cases hbq
                                      have HN2 : Hid (n0 + cntP (s0, (pp : Int)) (Pm.take (jj + 1)) = n0 + cntP (s0, (pp : Int)) (Pm.take jj)) := Lib.hid (by rw [HTK.out, if_neg hxy]; rfl)
                                      rw [HN2.out] at hb9
                                      clear hbq hxy
                                      generalize n0 + cntP (s0, (pp : Int)) (Pm.take jj) = nn at *
                                      go_wp2_with fail
                                      go_quiet (fail)
                                      go_wp2_with fail
                                      go_roundw
                                      case rel => exact ⟨jj + 1, _, by go_num, hj, by rw [HN2.out], by first | exact World.drewN_drewN _ _ _ | rfl⟩
                                      case measure => simp [intOf]; omega
                                  · have hjj : jj = Pm.length := by omega
                                    subst hjj
                                    have hji : ¬ (Pm.length : Int) < (Pm.length : Int) := by omega
                                    rw [List.take_length, ← HSN.out]
                                    go_wp2_with fail
                                    go_roundw
                                    case rel => exact ⟨m + 1, q5, by go_num, hm, rfl, by rw [HAN.out]; rfl, rfl⟩
                                    case measure => simp [intOf]; omega
                        · have hmm : m = R.length := by omega
                          subst hmm
                          have hmi : ¬ (R.length : Int) < (R.length : Int) := by omega
                          rw [List.take_length, HSUM.out]
                          generalize (R.any fun x => hasB x.d.T s0) = an
                          cases an
                          · rw [if_neg (by decide)]
                            go_wp2_with fail
                            go_roundw
                            case rel => exact ⟨pp + 1, _, by go_num, hp2, rfl⟩
                            case measure => simp [intOf]; omega
                          · rw [if_pos rfl]
                            go_wp2_with fail
                            go_roundw
                            case rel => exact ⟨pp + 1, _, by go_num, hp2, rfl⟩
                            case measure => simp [intOf]; omega
                    · have hstop : ¬ ((pp : Int) < np) ∨ (pp : Int) < np ∧ ¬ ((pp : Int) < 20) := by omega
                      rcases hstop with hs | ⟨hs1, hs2⟩
                      all_goals
                        go_wp2_with fail
                        go_roundw
                        case rel => exact ⟨t + 1, _, by go_num, ht, rfl⟩
                        case measure => simp [intOf]; omega
                · have hti : ¬ (t : Int) < (T2.length : Int) := by omega
                  go_wp2_with fail
                  go_roundw
                  case rel => exact ⟨k + 1, cc + 4, G', K', w6, S6, T2, TA2, tc2, rfl, by go_num, by omega, by omega, by omega, HTW.out, HTI.out.2, fun _ => by rw [HZ.out]; exact HS2.out, H6.out.later (below_drewN (Below.refl _ _) _)⟩
                  case measure => simp [intOf]; omega
          · have b1 : (G'.ph != 3) = true := by unfold bne; rw [beq_eq_false_iff_ne.2 hp3]; rfl
            have HP3 := Lib.hid hp3
            clear hp3 HST
            go_wp2_with fail
            go_roundw
            case rel => exact ⟨k + 1, cc + 4, G', K', _, _, T, TA, tc, rfl, by go_num, by omega, by omega, by omega, HT.out, hc4, fun e => absurd e HP3.out, H6.out⟩
            case measure => simp [intOf]; omega
      · have hstop : ¬ ((k : Int) < (L.length : Int)) ∨ (k : Int) < (L.length : Int) ∧ ¬ ((k : Int) < 60) := by omega
        have HBx := Lib.hid hP.bel
        clear hk hcc hk60 hkL hP hT hSh
        rcases hstop with hs | ⟨hs1, hs2⟩
        all_goals
          go_wp2_with fail
          with_reducible refine (live15_c _).mono ?_
          rintro e w3 ⟨rfl, hb3⟩
          go_wp2_with fail
          go_ret
          exact ⟨rfl, HBx.out.trans (hb3.mono HBx.out.size)⟩
end Go.Proofs.Ythbcklamhoekmaa
