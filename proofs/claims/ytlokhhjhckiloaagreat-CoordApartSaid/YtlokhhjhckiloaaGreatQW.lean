/- coord: merged texts. What each proves is told at its head. -/
import Derived.Test.YtlokhhjhckiloaaGreatQT
import Derived.Test.YtlokhhjhckiloaaGreatQU
import Derived.Test.YtlokhhjhckiloaaGreatQV
import Derived.Test.YtlokhhjhckiloaaGreatQ6
import Derived.BigRegion
/- coord: a step of both coordinators, whatever it is to do. No condition but that calls are not too many. -/
namespace Go.Proofs.YtlokhhjhckiloaaGreat
open Go.RowKit
set_option linter.unusedVariables false
theorem step17_c {W w : World} {p q t : Nat} {k ss rb : Int} {st sk : List UInt8 → Option GD} {n nk : Nat} {O OK : List Of.KE} (h : PA W p q t k ss rb st sk n nk O OK w) (hk : 0 ≤ k ∧ k ≤ 900000) (x : OC) (hx : OCk W x) :
    Calls Tryz.prog 10 #[.pointer (some ⟨p, 0, none⟩), .pointer (some ⟨q, 0, none⟩), .agg (ocL x).toArray] w (StP W w p q t k ss rb x st sk n nk O OK) := by
  by_cases h0 : x.do_ = 0
  · exact step0_c h hk x hx h0
  by_cases h1 : x.do_ = 1
  · exact step1_c h hk x hx h1
  by_cases h2 : x.do_ = 2
  · exact step2_c h hk x hx h2
  by_cases h3 : x.do_ = 3
  · exact step3_c h hk x hx h3
  by_cases h4 : x.do_ = 4
  · exact step4_c h hk x hx h4
  by_cases h5 : x.do_ = 5
  · exact step5_c h hk x hx h5
  by_cases h6 : x.do_ = 6
  · exact step6_c h hk x hx h6
  exact step7_c h hk x hx ⟨h0, h1, h2, h3, h4, h5, h6⟩
end Go.Proofs.YtlokhhjhckiloaaGreat
/- coord: the law CoordApart walks to true. No condition. -/
namespace Go.Proofs.YtlokhhjhckiloaaGreat
open Go.RowKit Go.Maps Go.ChangeMaps Go.WideMaps
set_option linter.unusedVariables false
set_option maxHeartbeats 32000000 in
set_option maxRecDepth 100000 in
theorem coordApart_walk (s r : Int) (A : Option Addr) (c : Nat) (L : List OC) (W : World) (_h0 : (Lit.int .i64 s).wf = true) (_h1 : (Lit.int .i64 r).wf = true) (hL : OcsIn W A L) : Calls Tryz.prog 5 #[.int .i64 s, .int .i64 r, .slice A L.length c] W (Good W (.bool true)) := by
  have HL := Lib.hid hL
  clear hL _h0 _h1
  cases hin : (witB s 1 100000 && witB r 1 100000) with
  | false =>
    have cn := cnew_no s r hin W
    go_enter Tryz.func5, Tryz.ntmps5
    go_wp2_with fail
    with_reducible refine cn.mono ?_
    rintro e w1 ⟨rfl, rfl⟩
    go_wp2_with fail
    with_reducible refine (live17_c _).mono ?_
    rintro e w2 ⟨rfl, hb2⟩
    go_wp2_with fail
    go_ret
    exact ⟨rfl, hb2⟩
  | true =>
    have hb : (1 ≤ s ∧ s ≤ 100000) ∧ 1 ≤ r ∧ r ≤ 100000 := by
      unfold witB at hin
      simp only [Bool.and_eq_true, decide_eq_true_eq] at hin
      exact hin
    have cn := cnew_ok s r hb.1 hb.2 W W (Below.refl _ _)
    have ckn := fun w (hbw : Below W.heap.size W w) => konew_k W w s r hb.1 hb.2 hbw
    go_enter Tryz.func5, Tryz.ntmps5
    go_wp2_with fail
    with_reducible refine cn.mono ?_
    rintro e w1 ⟨p, rfl, hC⟩
    have ckn1 := ckn w1 hC.bel
    have HC := Lib.hid hC
    clear cn ckn hC hin
    go_wp2_with fail
    with_reducible refine ckn1.mono ?_
    rintro e w2 ⟨hb2, q, t, rfl, hK⟩
    have H2 : Hid (PA W p q t 0 s r (fun _ => none) (fun _ => none) 0 0 [] [] w2) := Lib.hid ⟨HC.out.later hb2, 0, none, [], _, _, hK, fun _ => rfl, rfl⟩
    clear ckn1 hb2 hK HC
    have cs := fun (x : OC) w => (show Calls Tryz.prog 9 #[.agg #[.int .i64 x.do_, .string x.g, .int .i64 x.m, .slice x.TA x.T.length x.tc, .int .i64 x.gen, .slice x.PA x.P.length x.pc, .bool x.rnd, .string x.pt, .int .i64 x.pi, .int .i64 x.at_, .int .i64 x.now]] w (fun e w' => e = .returned (.bool (smallC x)) ∧ Below w.heap.size w w') from smallc_c x w)
    go_wp2_with fail
    go_loopw [10] (fun j wr => ∃ (k : Nat) (cc : Int) (st sk : List UInt8 → Option GD) (n nk : Nat) (O OK : List Of.KE), j = .int .i64 k ∧ k ≤ 50 ∧ k ≤ L.length ∧ 0 ≤ cc ∧ cc ≤ 80 * k ∧ PA W p q t cc s r st sk n nk O OK wr) (fun j _ => 50 - (intOf j).toNat)
    case atStart => exact ⟨0, 0, _, _, _, _, _, _, rfl, by omega, by omega, by omega, by omega, H2.out⟩
    case round =>
      obtain ⟨k, cc, st, sk, n, nk, O, OK, rfl, hk50, hkL, hcc0, hcc, hP⟩ := hrel
      clear H2
      by_cases hk : k < L.length ∧ k < 50
      · obtain ⟨hk1, hk2⟩ := hk
        obtain ⟨x, hx⟩ : ∃ x, L[k]? = some x := ⟨_, List.getElem?_eq_getElem hk1⟩
        obtain ⟨b, off, rfl, hbl, hc, _⟩ := HL.out.at_ hP.bel hx
        have hok : OCk W x := (HL.out.at_ (Below.refl _ _) hx).choose_spec.choose_spec.2.2.2
        have z0 := hc 0 (by decide)
        have z1 := hc 1 (by decide)
        have z2 := hc 2 (by decide)
        have z3 := hc 3 (by decide)
        have z4 := hc 4 (by decide)
        have z5 := hc 5 (by decide)
        have z6 := hc 6 (by decide)
        have z7 := hc 7 (by decide)
        have z8 := hc 8 (by decide)
        have z9 := hc 9 (by decide)
        have z10 := hc 10 (by decide)
        simp only [ocL, List.getElem?_cons_zero, List.getElem?_cons_succ, Nat.add_zero] at z0 z1 z2 z3 z4 z5 z6 z7 z8 z9 z10
        have hA : Below wr.heap.size wr (wr.alloc (.cells (ocL x).toArray 36)) := (Below.refl _ _).alloc (Nat.le_refl _) _
        have H1 := Lib.hid (hP.later hA)
        have HX := Lib.hid (Box.new wr 36 (ocL x).toArray)
        obtain ⟨x0, x1, x2, x3, x4, x5, x6, x7, x8, x9, x10, xl⟩ := occ11 HX.out
        have HOK := Lib.hid hok
        clear hA hP hc hok hx
        have hki : (k : Int) < (L.length : Int) := by omega
        have hki2 : (k : Int) < 50 := by omega
        go_wp2_with fail
        with_reducible refine (cs x _).mono ?_
        rintro e w3 ⟨rfl, hb3⟩
        have H3 := Lib.hid (H1.out.later hb3)
        have HX3 := Lib.hid (HX.out.later hb3)
        clear hb3 x0 x1 x2 x3 x4 x5 x6 x7 x8 x9 x10 xl z0 z1 z2 z3 z4 z5 z6 z7 z8 z9 z10 H1 HX
        cases hsm : smallC x with
        | false =>
          have HBx := Lib.hid H3.out.bel
          go_wp2_with fail
          with_reducible refine (live17_c _).mono ?_
          rintro e w4 ⟨rfl, hb4⟩
          go_wp2_with fail
          go_ret
          exact ⟨rfl, HBx.out.trans (hb4.mono HBx.out.size)⟩
        | true =>
          have cnm := pa_names H3.out
          clear hsm
          go_wp2_with fail
          with_reducible refine cnm.mono ?_
          rintro e w4 ⟨NA, nc, N, rfl, hr4, hN20, hNs, hb4⟩
          have HLP : Hid (Lp W p q t cc s r st sk n nk O OK wr.heap.size x N NA nc 0 0 [] none 0 none 0 w4) := Lib.hid ⟨H3.out.later hb4, HX3.out.later hb4, own_base2 hr4 H3.out.bel.size, World.ownsRow_nil _ _ _ _, World.ownsRow_nil _ _ _ _, rfl, Nat.zero_le _, Nat.zero_le _⟩
          have HNS := Lib.hid hNs
          clear cnm hr4 hNs hb4 H3 HX3
          go_wp2_with fail
          generalize wr.heap.size = bn at *
          go_loopw [13, 14, 15] (fun v1 v2 v3 wr => ∃ (j : Nat) (M : List (GD × Option Addr × Nat)) (wA : Option Addr) (wc : Nat) (aA : Option Addr) (ac : Nat), v1 = .slice wA j wc ∧ v2 = .slice aA j ac ∧ v3 = .int .i64 j ∧ j ≤ N.length ∧ Lp W p q t cc s r st sk n nk O OK bn x N NA nc j j M wA wc aA ac wr) (fun _ _ v3 _ => N.length - (intOf v3).toNat)
          case atStart => exact ⟨0, [], none, 0, none, 0, rfl, rfl, rfl, Nat.zero_le _, HLP.out⟩
          case round =>
            obtain ⟨j, M, wA, wc, aA, ac, rfl, rfl, rfl, hjN, hLp⟩ := hrel
            clear HLP
            by_cases hj : j < N.length
            · obtain ⟨u, hu⟩ : ∃ u, N[j]? = some u := ⟨_, List.getElem?_eq_getElem hj⟩
              obtain ⟨g, hNA, hgl, y0⟩ := hLp.name hu
              subst hNA
              have hus : u.size ≤ maxLen := by have := HNS.out u (List.mem_of_getElem? hu); unfold maxLen; omega
              have cg := pa_group hLp.pa u hus
              rw [show (st u.data.toList).getD zG = gdN st u from rfl] at cg
              have HUS := Lib.hid hus
              have HU := Lib.hid hu
              have HLp := Lib.hid hLp
              have hji : (j : Int) < (N.length : Int) := by omega
              have hj0 : (0 : Int) ≤ (j : Int) := by omega
              have hj20 : j ≤ 20 := by omega
              clear hLp hu hus
              go_wp2_with fail
              with_reducible refine cg.mono ?_
              rintro e w5 ⟨A5, c5, rfl, hb5⟩
              obtain ⟨wA', wc', w6, r6, hL6⟩ := (HLp.out.later hb5).push1 hj20 HU.out A5 c5
              have HL6 := Lib.hid hL6
              obtain ⟨g', hg', hgl6, y6⟩ := hL6.name HU.out
              injection hg' with hg'
              injection hg' with hg'
              subst hg'
              obtain ⟨x0, x1, x2, x3, x4, x5, x6, x7, x8, x9, x10, xl⟩ := occ11 hL6.bx
              have cgt := pa_get (hL6.pa.later (Below.refl _ _).drew) u x.pt x.pi (HOK.out.ky u HUS.out)
              rw [show (Of.geR O ⟨u, x.pt, x.pi⟩).1 = geN O x u from rfl] at cgt
              have HKP : Hid (∀ w', Below w6.drew.heap.size w6.drew w' → w'.cell? ⟨g, j, none⟩ = some (.string u) ∧ w'.cell? ⟨bn, 7, none⟩ = some (.string x.pt) ∧ w'.cell? ⟨bn, 8, none⟩ = some (.int .i64 x.pi)) := Lib.hid (fun w' hb => by
                have h9 := (HL6.out.later (Below.refl _ _).drew).later hb
                obtain ⟨g9, hg9, _, y9⟩ := h9.name HU.out
                injection hg9 with hg9
                injection hg9 with hg9
                subst hg9
                exact ⟨y9, (h9.bx.cell 7).trans rfl, (h9.bx.cell 8).trans rfl⟩)
              generalize (Of.geR O ⟨u, x.pt, x.pi⟩).2 = isB at *
              clear cg hb5 y0 hgl hL6 HLp
              go_wp2_with (at_builtin; refine wpList_append_run rfl (.tmp 66) (.tmp 73) 59 rfl _ _ _ rfl rfl r6 ?_)
              go_region_held3 (fun wq => wq.cell? ⟨g, j, none⟩ = some (.string u) ∧ wq.cell? ⟨bn, 7, none⟩ = some (.string x.pt) ∧ wq.cell? ⟨bn, 8, none⟩ = some (.int .i64 x.pi))
                (first | exact ⟨y6, x7, x8⟩ | exact HKP.out _ (by assumption))
                (first | ((with_reducible refine cgt.mono ?_); rintro e w7 ⟨rfl, hb7⟩))
              all_goals
                have HL7 := Lib.hid ((HL6.out.later (Below.refl _ _).drew).later hb7)
                obtain ⟨aA', ac', w8, r8, hL8⟩ := HL7.out.push2 hj20 HU.out
                have HL8 := Lib.hid hL8
                clear cgt hb7 hL8 x0 x1 x2 x3 x4 x5 x6 x7 x8 x9 x10 xl y6 r6 hgl6
                go_wp2_with (at_builtin; refine wpList_append_run rfl (.tmp 86) (.tmp 88) 60 rfl _ _ _ rfl rfl r8 ?_)
                go_roundw
                case rel => exact ⟨j + 1, _, _, _, _, _, rfl, rfl, by go_num, hj, HL8.out⟩
                case measure => simp [intOf]; omega
            · have hjj : j = N.length := by omega
              subst hjj
              have hni : ¬ (N.length : Int) < (N.length : Int) := by omega
              obtain ⟨x0, x1, x2, x3, x4, x5, x6, x7, x8, x9, x10, xl⟩ := occ11 hLp.bx
              have cst : Calls Tryz.prog 10 #[.pointer (some ⟨p, 0, none⟩), .pointer (some ⟨q, 0, none⟩), .agg #[.int .i64 x.do_, .string x.g, .int .i64 x.m, .slice x.TA x.T.length x.tc, .int .i64 x.gen, .slice x.PA x.P.length x.pc, .bool x.rnd, .string x.pt, .int .i64 x.pi, .int .i64 x.at_, .int .i64 x.now]] wr (StP W wr p q t cc s r x st sk n nk O OK) := step17_c hLp.pa ⟨hcc0, by omega⟩ x HOK.out
              have HLp := Lib.hid hLp
              clear hLp
              go_wp2_with fail
              with_reducible refine cst.mono ?_
              rintro e w6 ⟨b6, c6, gg, n', nk', rfl, _, _, hP6, hkb6⟩
              have HLQ := Lib.hid (HLp.out.step hP6 hkb6)
              clear cst hP6 hkb6 HLp x0 x1 x2 x3 x4 x5 x6 x7 x8 x9 x10 xl
              go_wp2_with fail
              go_loopw [18] (fun v1 wr => ∃ j : Nat, v1 = .int .i64 j ∧ j ≤ N.length ∧ Lq W p q t (cc + 80) s r (stepSt x gg st n s r) (stepSk x gg sk nk s r) n' nk' (stepOO x c6 O) (stepOO x c6 OK) bn x N NA nc O st M wA wc aA ac wr) (fun v1 _ => N.length - (intOf v1).toNat)
              case atStart => exact ⟨0, rfl, Nat.zero_le _, HLQ.out⟩
              case round =>
                obtain ⟨j, rfl, hj3, hLq⟩ := hrel
                clear HLQ
                by_cases hj : j < N.length
                · obtain ⟨u, hu⟩ : ∃ u, N[j]? = some u := ⟨_, List.getElem?_eq_getElem hj⟩
                  obtain ⟨g, hNA, hgl, y0⟩ := hLq.name hu
                  subst hNA
                  obtain ⟨x0, x1, x2, x3, x4, x5, x6, x7, x8, x9, x10, xl⟩ := occ11 hLq.bx
                  have hus : u.size ≤ maxLen := by have := HNS.out u (List.mem_of_getElem? hu); unfold maxLen; omega
                  have HUS := Lib.hid hus
                  have HU := Lib.hid hu
                  have HLq := Lib.hid hLq
                  have hji : (j : Int) < (N.length : Int) := by omega
                  have hj0 : (0 : Int) ≤ (j : Int) := by omega
                  by_cases hskip : u = x.g ∨ x.do_ < 0 ∨ 5 < x.do_
                  · have hc3 : (u.toList == x.g.toList) = true ∨ ((u.toList == x.g.toList) = false ∧ decide (x.do_ < 0) = true) ∨ ((u.toList == x.g.toList) = false ∧ decide (x.do_ < 0) = false ∧ decide (5 < x.do_) = true) := by
                      by_cases e1 : u = x.g
                      · exact .inl (by rw [e1]; simp)
                      · have h1 : (u.toList == x.g.toList) = false := Of.str_ne' e1
                        rcases hskip with e | e | e
                        · exact absurd e e1
                        · exact .inr (.inl ⟨h1, decide_eq_true e⟩)
                        · by_cases e2 : x.do_ < 0
                          · exact .inr (.inl ⟨h1, decide_eq_true e2⟩)
                          · exact .inr (.inr ⟨h1, decide_eq_false e2, decide_eq_true e⟩)
                    clear hskip hLq hu hus
                    rcases hc3 with e1 | ⟨e1, e2⟩ | ⟨e1, e2, e3⟩
                    all_goals
                      go_wp2_with fail
                      go_quiet (fail)
                      go_wp2_with fail
                      go_roundw
                      case rel => exact ⟨j + 1, by go_num, hj, HLq.out.later (below_drewN (Below.refl _ _) _)⟩
                      case measure => simp [intOf]; omega
                  · have hne : u ≠ x.g := fun e => hskip (.inl e)
                    have hd05 : 0 ≤ x.do_ ∧ x.do_ ≤ 5 := by
                      rw [not_or, not_or] at hskip
                      omega
                    have e1 : (u.toList == x.g.toList) = false := Of.str_ne' hne
                    have e2 : decide (x.do_ < 0) = false := decide_eq_false (by omega)
                    have e3 : decide (5 < x.do_) = false := decide_eq_false (by omega)
                    have hst9 : gdN (stepSt x gg st n s r) u = gdN st u := step_other hd05 hne
                    have hgo9 : geN (stepOO x c6 O) x u = geN O x u := stepO_other hd05 hne (HOK.out.ky u hus)
                    have cg := fun w' (hb : Below wr.heap.size wr w') => pa_group (hLq.pa.later hb) u hus
                    rw [show ((stepSt x gg st n s r) u.data.toList).getD zG = gdN st u from hst9] at cg
                    have HGO := Lib.hid hgo9
                    clear hskip hLq hu hus hne hd05 hst9 hgo9
                    go_wp2_with fail
                    go_quiet (fail)
                    have cg7 := cg _ (below_drewN (Below.refl _ wr) nq)
                    have HL7 := Lib.hid (HLq.out.later (below_drewN (Below.refl _ wr) nq))
                    generalize wr.drewN nq = wq at *
                    obtain ⟨g', hg', hgl7, y7⟩ := HL7.out.name HU.out
                    injection hg' with hg'
                    injection hg' with hg'
                    subst hg'
                    clear cg hgl y0 x0 x1 x2 x3 x4 x5 x6 x7 x8 x9 x10 xl HLq e1 e2 e3
                    go_wp2_with fail
                    with_reducible refine cg7.mono ?_
                    rintro e w7 ⟨A7, c7, rfl, hb7⟩
                    have hA7 : Below w7.heap.size w7 (w7.alloc (.cells #[.int .i64 (gdN st u).ph, .int .i64 (gdN st u).gn, .int .i64 (gdN st u).nx, .int .i64 (gdN st u).un, .slice A7 (gdN st u).L.length c7] 57)) := (Below.refl _ _).alloc (Nat.le_refl _) _
                    have HL8 := Lib.hid ((HL7.out.later hb7).later hA7)
                    have HV8 := Lib.hid (Box.new w7 57 #[.int .i64 (gdN st u).ph, .int .i64 (gdN st u).gn, .int .i64 (gdN st u).nx, .int .i64 (gdN st u).un, .slice A7 (gdN st u).L.length c7])
                    clear cg7 hb7 hA7 hgl7 y7 HL7
                    obtain ⟨g', hg', hgl8, y8⟩ := HL8.out.name HU.out
                    injection hg' with hg'
                    injection hg' with hg'
                    subst hg'
                    obtain ⟨x0, x1, x2, x3, x4, x5, x6, x7, x8, x9, x10, xl⟩ := occ11 HL8.out.bx
                    have cgt := pa_get (HL8.out.pa.later (Below.refl _ _).drew) u x.pt x.pi (HOK.out.ky u HUS.out)
                    rw [show (Of.geR (stepOO x c6 O) ⟨u, x.pt, x.pi⟩).1 = geN O x u from HGO.out] at cgt
                    generalize (Of.geR (stepOO x c6 O) ⟨u, x.pt, x.pi⟩).2 = isB at *
                    have HKP : Hid (∀ w', Below (w7.alloc (.cells #[.int .i64 (gdN st u).ph, .int .i64 (gdN st u).gn, .int .i64 (gdN st u).nx, .int .i64 (gdN st u).un, .slice A7 (gdN st u).L.length c7] 57)).drew.heap.size (w7.alloc (.cells #[.int .i64 (gdN st u).ph, .int .i64 (gdN st u).gn, .int .i64 (gdN st u).nx, .int .i64 (gdN st u).un, .slice A7 (gdN st u).L.length c7] 57)).drew w' → w'.cell? ⟨g, j, none⟩ = some (.string u) ∧ w'.cell? ⟨bn, 7, none⟩ = some (.string x.pt) ∧ w'.cell? ⟨bn, 8, none⟩ = some (.int .i64 x.pi)) := Lib.hid (fun w' hb => by
                      have h9 := (HL8.out.later (Below.refl _ _).drew).later hb
                      obtain ⟨g9, hg9, _, y9⟩ := h9.name HU.out
                      injection hg9 with hg9
                      injection hg9 with hg9
                      subst hg9
                      exact ⟨y9, (h9.bx.cell 7).trans rfl, (h9.bx.cell 8).trans rfl⟩)
                    go_wp2_with fail
                    go_region_held3 (fun wq => wq.cell? ⟨g, j, none⟩ = some (.string u) ∧ wq.cell? ⟨bn, 7, none⟩ = some (.string x.pt) ∧ wq.cell? ⟨bn, 8, none⟩ = some (.int .i64 x.pi))
                      (first | exact ⟨y8, x7, x8⟩ | exact HKP.out _ (by assumption))
                      (first | ((with_reducible refine cgt.mono ?_); rintro e w9 ⟨rfl, hb9⟩))
                    all_goals
                      have HL9 := Lib.hid ((HL8.out.later (Below.refl _ _).drew).later hb9)
                      have HV9 := HV8.out.drew.later hb9
                      obtain ⟨⟨u0, u1, u2, u3, u4⟩, ul, _⟩ := vw5 HV9
                      obtain ⟨g1, g2, mA, mc, hw1, ha1, l1, l2, lc1, lc2, v0, v1, v2, v3, v4⟩ := HL9.out.was HU.out
                      have hl7 : w7.heap.size < w9.heap.size := HV9.lt
                      subst hw1
                      subst ha1
                      clear cgt hb9 HV9 y8 hgl8 x0 x1 x2 x3 x4 x5 x6 x7 x8 x9 x10 xl HKP HV8 HL8
                      generalize hi5 : j * 5 = i5 at *
                      generalize gdN st u = G at *
                      generalize geN O x u = ga at *
                      have n1 : (ga != ga) = false := by simp
                      have n2 : (G.ph != G.ph) = false := by simp
                      have n3 : (G.gn != G.gn) = false := by simp
                      have n4 : (G.un != G.un) = false := by simp
                      have n5 : ((G.L.length : Int) != (G.L.length : Int)) = false := by simp
                      have hw9 : (j : Int) ≤ (wc : Int) := by omega
                      have hw8 : (j : Int) ≤ (ac : Int) := by omega
                      clear lc1 lc2
                      go_wp2_with fail
                      go_quiet (fail)
                      go_wp2_with fail
                      go_roundw
                      case rel => exact ⟨j + 1, by go_num, hj, HL9.out.later (below_drewN (Below.refl _ _) _)⟩
                      case measure => simp [intOf]; omega
                · have hni : ¬ (j : Int) < (N.length : Int) := by omega
                  have HLq := Lib.hid hLq
                  clear hLq
                  go_wp2_with fail
                  go_roundw
                  case rel => exact ⟨k + 1, cc + 80, _, _, _, _, _, _, by go_num, by omega, by omega, by omega, by omega, HLq.out.pa⟩
                  case measure => simp [intOf]; omega
      · have hkk : ¬ ((k : Int) < (L.length : Int)) ∨ ((k : Int) < (L.length : Int)) ∧ ¬ ((k : Int) < 50) := by omega
        have HBx := Lib.hid hP.bel
        clear hP hk
        rcases hkk with hkk | ⟨hk1, hkk⟩
        all_goals
          go_wp2_with fail
          with_reducible refine (live17_c _).mono ?_
          rintro e w4 ⟨rfl, hb4⟩
          go_wp2_with fail
          go_ret
          exact ⟨rfl, HBx.out.trans (hb4.mono HBx.out.size)⟩
end Go.Proofs.YtlokhhjhckiloaaGreat
