/- coord: merged texts. What each proves is told at its head. -/
import Derived.Test.YtlokhhjhckiloaaGreatQ5
/- coord: a step of both coordinators, by a contract. No condition but that calls are not too many. -/
namespace Go.Proofs.YtlokhhjhckiloaaGreat
open Go.RowKit Go.Maps Go.ChangeMaps Go.WideMaps
set_option linter.unusedVariables false
section
variable {W w w' : World} {p q t : Nat} {k ss rb : Int} {st sk : List UInt8 → Option GD} {n nk : Nat} {O OK : List Of.KE}
set_option maxHeartbeats 16000000 in
set_option maxRecDepth 100000 in
theorem step0_c (h : PA W p q t k ss rb st sk n nk O OK w) (hk : 0 ≤ k ∧ k ≤ 900000) (x : OC) (hx : OCk W x) (hd : x.do_ = 0) :
    Calls Tryz.prog 10 #[.pointer (some ⟨p, 0, none⟩), .pointer (some ⟨q, 0, none⟩), .agg (ocL x).toArray] w (StP W w p q t k ss rb x st sk n nk O OK) := by
  have hA : Below w.heap.size w (w.alloc (.cells (ocL x).toArray 36)) := (Below.refl _ _).alloc (Nat.le_refl _) _
  have hbx := Box.new w 36 (ocL x).toArray
  obtain ⟨x0, x1, x2, x3, x4, x5, x6, x7, x8, x9, x10, xl⟩ := occ11 hbx
  have hP := h.later hA
  have cf := ka_find hP x.g
  have HX := Lib.hid hbx
  have HP := Lib.hid hP
  have HA := Lib.hid hA
  have HK := Lib.hid hk
  have HO := Lib.hid hx
  clear hA hbx hP h hk hx
  rw [hd] at x0
  go_enter Tryz.func10, Tryz.ntmps10
  go_wp2_with fail
  with_reducible refine cf.mono ?_
  rintro en w2 ⟨hb, hcase⟩
  have H2 := Lib.hid (HP.out.later hb)
  have HB2 := Lib.hid (HX.out.later hb)
  have HK2 := Lib.hid ((KB.of_below HA.out).trans (KB.of_below hb))
  clear x0 x1 x2 x3 x4 x5 x6 x7 x8 x9 x10 xl cf hb HP HX HA
  obtain ⟨x0, x1, x2, x3, x4, x5, x6, x7, x8, x9, x10, xl⟩ := occ11 HB2.out
  rw [hd] at x0
  have HD := Lib.hid hd
  clear hd
  have hK2 := HK.out.2
  rcases hcase with ⟨gb, GG, rfl, cg, hgl, hG0, hG1⟩ | rfl
  · go_upto_region 3 with fail
    go_cut [43] from 29 to 43 (fun v wx => (∃ z : Bool, v = .bool z) ∧ w2 = wx)
    case first =>
      go_wp2_with fail
      all_goals
        go_meet
        exact ⟨⟨_, rfl⟩, rfl⟩
    case rest =>
      obtain ⟨⟨zb, rfl⟩, rfl⟩ := hcut
      go_upto_if 43 with fail
      go_cut [7] from 44 to 49 (fun v wx => (∃ z : Int, v = .int .i64 z) ∧ w2 = wx)
      case first =>
        cases zb
        all_goals
          go_wp2_with fail
          go_meet
          exact ⟨⟨_, rfl⟩, rfl⟩
      case rest =>
        obtain ⟨⟨z, rfl⟩, rfl⟩ := hcut
        have HFIN : Hid (∀ (b : Bool) (n1 n2 : Nat) (w' : World), (stepQ x z st sk n nk ss rb O OK → b = true) → PA W p q t (k + 2 + 2) ss rb (joSt x.g x.m x.T x.now st n ss rb) (joSt x.g x.m x.T x.now sk nk ss rb) n1 n2 O OK w' → KB w w' → StP W w p q t k ss rb x st sk n nk O OK (.returned (.bool b)) w') := Lib.hid (fun b n1 n2 w' hq hp hkb => ⟨b, true, z, n1, n2, rfl, hq, .inl rfl, by
          have hs1 : stepSt x z st n ss rb = joSt x.g x.m x.T x.now st n ss rb := by unfold stepSt; rw [if_pos HD.out]
          have hs2 : stepSk x z sk nk ss rb = joSt x.g x.m x.T x.now sk nk ss rb := by unfold stepSk; rw [if_pos HD.out]
          have ho : ∀ c L, stepOO x c L = L := fun c L => by unfold stepOO; rw [if_neg (by have := HD.out; omega), if_neg (by have := HD.out; omega)]
          rw [hs1, hs2, ho, ho]
          exact hp.bump (by omega), hkb⟩)
        have c1 := pa_join H2.out ⟨HK.out.1, by have := HK.out.2; omega⟩ x.g HO.out.g x.m x.now x.T x.TA x.tc HO.out.str HO.out.tl HO.out.tz
        generalize he1 : joEs x.g x.m x.T x.now st n ss rb = e1 at c1
        generalize hv1 : joV x.g x.m x.T x.now st n ss rb = v1 at c1
        generalize he2 : joEs x.g x.m x.T x.now sk nk ss rb = e2
        generalize hv2 : joV x.g x.m x.T x.now sk nk ss rb = v2
        have HQ : Hid (stepQ x z st sk n nk ss rb O OK → e1 = e2 ∧ v1 = v2) := Lib.hid (fun hq => by
          unfold stepQ at hq
          rw [if_pos HD.out, he1, hv1, he2, hv2] at hq
          exact hq)
        have HE2 := Lib.hid (And.intro he2 hv2)
        clear he1 hv1 he2 hv2
        go_wp2_with fail
        with_reducible refine c1.mono ?_
        rintro en w3 ⟨rfl, ⟨n1, H3⟩, hkb⟩
        have HH3 := Lib.hid H3
        have HB3 := Lib.hid (hkb.op HB2.out)
        have HK3 := Lib.hid (HK2.out.trans hkb)
        clear c1 H3 hkb cg hgl
        clear x0 x1 x2 x3 x4 x5 x6 x7 x8 x9 x10 xl
        obtain ⟨a1, b1, d1⟩ := v1
        dsimp only
        have hA3 : Below w3.heap.size w3 (w3.alloc (.cells #[.int .i64 a1, .int .i64 b1, .int .i64 d1] 41)) := (Below.refl _ _).alloc (Nat.le_refl _) _
        obtain ⟨x0, x1, x2, x3, x4, x5, x6, x7, x8, x9, x10, xl⟩ := occ11 (HB3.out.later hA3)
        have c2 := ka_join (HH3.out.later hA3) ⟨by have := HK.out.1; omega, by have := HK.out.2; omega⟩ x.g x.m x.now x.T x.TA x.tc HO.out.str (str_none HO.out.str) HO.out.tl HO.out.tz
        rw [HE2.out.1, HE2.out.2] at c2
        have HA3 := Lib.hid hA3
        clear hA3
        go_wp2_with fail
        with_reducible refine c2.mono ?_
        rintro en w4 ⟨rfl, ⟨n2, H4⟩, hkb⟩
        have HH4 := Lib.hid H4
        have HK4 := Lib.hid ((HK3.out.trans (KB.of_below HA3.out)).trans hkb)
        obtain ⟨y0, y1, y2, yl, _, _, _⟩ := jn3 (hkb.box (Box.new w3 41 #[.int .i64 a1, .int .i64 b1, .int .i64 d1]) (by decide) (by decide) (by unfold kindK; decide))
        clear c2 H4 hkb
        clear x0 x1 x2 x3 x4 x5 x6 x7 x8 x9 x10 xl
        obtain ⟨a2, b2, d2⟩ := v2
        dsimp only
        by_cases q1 : e1 = e2
        · subst q1
          by_cases q2 : a1 = a2
          · subst q2
            by_cases q3 : b1 = b2
            · subst q3
              by_cases q4 : d1 = d2
              · subst q4
                go_wp2_with fail
                go_ret
                exact HFIN.out _ _ _ _ (fun _ => by simp) HH4.out HK4.out
              · have q4' : (d1 == d2) = false := beq_eq_false_iff_ne.2 q4
                have HN := Lib.hid q4
                clear q4
                go_wp2_with fail
                go_ret
                exact HFIN.out _ _ _ _ (fun hq => absurd (congrArg (fun v => v.2.2) (HQ.out hq).2) HN.out) HH4.out HK4.out
            · have q3' : (b1 == b2) = false := beq_eq_false_iff_ne.2 q3
              have HN := Lib.hid q3
              clear q3
              go_wp2_with fail
              go_ret
              exact HFIN.out _ _ _ _ (fun hq => absurd (congrArg (fun v => v.2.1) (HQ.out hq).2) HN.out) HH4.out HK4.out
          · have q2' : (a1 == a2) = false := beq_eq_false_iff_ne.2 q2
            have HN := Lib.hid q2
            clear q2
            go_wp2_with fail
            go_ret
            exact HFIN.out _ _ _ _ (fun hq => absurd (congrArg (fun v => v.1) (HQ.out hq).2) HN.out) HH4.out HK4.out
        · have q1' : (e1 == e2) = false := beq_eq_false_iff_ne.2 q1
          have HN := Lib.hid q1
          clear q1
          go_wp2_with fail
          go_ret
          exact HFIN.out _ _ _ _ (fun hq => absurd (HQ.out hq).1 HN.out) HH4.out HK4.out
  · go_upto_region 3 with fail
    go_cut [43] from 29 to 43 (fun v wx => v = .bool false ∧ w2 = wx)
    case first =>
      go_wp2_with fail
      all_goals
        go_meet
        exact ⟨rfl, rfl⟩
    case rest =>
      obtain ⟨rfl, rfl⟩ := hcut
      go_upto_if 43 with fail
      go_cut [7] from 44 to 49 (fun v wx => (∃ z : Int, v = .int .i64 z) ∧ w2 = wx)
      case first =>
        go_wp2_with fail
        go_meet
        exact ⟨⟨_, rfl⟩, rfl⟩
      case rest =>
        obtain ⟨⟨z, rfl⟩, rfl⟩ := hcut
        have HFIN : Hid (∀ (b : Bool) (n1 n2 : Nat) (w' : World), (stepQ x z st sk n nk ss rb O OK → b = true) → PA W p q t (k + 2 + 2) ss rb (joSt x.g x.m x.T x.now st n ss rb) (joSt x.g x.m x.T x.now sk nk ss rb) n1 n2 O OK w' → KB w w' → StP W w p q t k ss rb x st sk n nk O OK (.returned (.bool b)) w') := Lib.hid (fun b n1 n2 w' hq hp hkb => ⟨b, true, z, n1, n2, rfl, hq, .inl rfl, by
          have hs1 : stepSt x z st n ss rb = joSt x.g x.m x.T x.now st n ss rb := by unfold stepSt; rw [if_pos HD.out]
          have hs2 : stepSk x z sk nk ss rb = joSt x.g x.m x.T x.now sk nk ss rb := by unfold stepSk; rw [if_pos HD.out]
          have ho : ∀ c L, stepOO x c L = L := fun c L => by unfold stepOO; rw [if_neg (by have := HD.out; omega), if_neg (by have := HD.out; omega)]
          rw [hs1, hs2, ho, ho]
          exact hp.bump (by omega), hkb⟩)
        have c1 := pa_join H2.out ⟨HK.out.1, by have := HK.out.2; omega⟩ x.g HO.out.g x.m x.now x.T x.TA x.tc HO.out.str HO.out.tl HO.out.tz
        generalize he1 : joEs x.g x.m x.T x.now st n ss rb = e1 at c1
        generalize hv1 : joV x.g x.m x.T x.now st n ss rb = v1 at c1
        generalize he2 : joEs x.g x.m x.T x.now sk nk ss rb = e2
        generalize hv2 : joV x.g x.m x.T x.now sk nk ss rb = v2
        have HQ : Hid (stepQ x z st sk n nk ss rb O OK → e1 = e2 ∧ v1 = v2) := Lib.hid (fun hq => by
          unfold stepQ at hq
          rw [if_pos HD.out, he1, hv1, he2, hv2] at hq
          exact hq)
        have HE2 := Lib.hid (And.intro he2 hv2)
        clear he1 hv1 he2 hv2
        go_wp2_with fail
        with_reducible refine c1.mono ?_
        rintro en w3 ⟨rfl, ⟨n1, H3⟩, hkb⟩
        have HH3 := Lib.hid H3
        have HB3 := Lib.hid (hkb.op HB2.out)
        have HK3 := Lib.hid (HK2.out.trans hkb)
        clear c1 H3 hkb
        clear x0 x1 x2 x3 x4 x5 x6 x7 x8 x9 x10 xl
        obtain ⟨a1, b1, d1⟩ := v1
        dsimp only
        have hA3 : Below w3.heap.size w3 (w3.alloc (.cells #[.int .i64 a1, .int .i64 b1, .int .i64 d1] 41)) := (Below.refl _ _).alloc (Nat.le_refl _) _
        obtain ⟨x0, x1, x2, x3, x4, x5, x6, x7, x8, x9, x10, xl⟩ := occ11 (HB3.out.later hA3)
        have c2 := ka_join (HH3.out.later hA3) ⟨by have := HK.out.1; omega, by have := HK.out.2; omega⟩ x.g x.m x.now x.T x.TA x.tc HO.out.str (str_none HO.out.str) HO.out.tl HO.out.tz
        rw [HE2.out.1, HE2.out.2] at c2
        have HA3 := Lib.hid hA3
        clear hA3
        go_wp2_with fail
        with_reducible refine c2.mono ?_
        rintro en w4 ⟨rfl, ⟨n2, H4⟩, hkb⟩
        have HH4 := Lib.hid H4
        have HK4 := Lib.hid ((HK3.out.trans (KB.of_below HA3.out)).trans hkb)
        obtain ⟨y0, y1, y2, yl, _, _, _⟩ := jn3 (hkb.box (Box.new w3 41 #[.int .i64 a1, .int .i64 b1, .int .i64 d1]) (by decide) (by decide) (by unfold kindK; decide))
        clear c2 H4 hkb
        clear x0 x1 x2 x3 x4 x5 x6 x7 x8 x9 x10 xl
        obtain ⟨a2, b2, d2⟩ := v2
        dsimp only
        by_cases q1 : e1 = e2
        · subst q1
          by_cases q2 : a1 = a2
          · subst q2
            by_cases q3 : b1 = b2
            · subst q3
              by_cases q4 : d1 = d2
              · subst q4
                go_wp2_with fail
                go_ret
                exact HFIN.out _ _ _ _ (fun _ => by simp) HH4.out HK4.out
              · have q4' : (d1 == d2) = false := beq_eq_false_iff_ne.2 q4
                have HN := Lib.hid q4
                clear q4
                go_wp2_with fail
                go_ret
                exact HFIN.out _ _ _ _ (fun hq => absurd (congrArg (fun v => v.2.2) (HQ.out hq).2) HN.out) HH4.out HK4.out
            · have q3' : (b1 == b2) = false := beq_eq_false_iff_ne.2 q3
              have HN := Lib.hid q3
              clear q3
              go_wp2_with fail
              go_ret
              exact HFIN.out _ _ _ _ (fun hq => absurd (congrArg (fun v => v.2.1) (HQ.out hq).2) HN.out) HH4.out HK4.out
          · have q2' : (a1 == a2) = false := beq_eq_false_iff_ne.2 q2
            have HN := Lib.hid q2
            clear q2
            go_wp2_with fail
            go_ret
            exact HFIN.out _ _ _ _ (fun hq => absurd (congrArg (fun v => v.1) (HQ.out hq).2) HN.out) HH4.out HK4.out
        · have q1' : (e1 == e2) = false := beq_eq_false_iff_ne.2 q1
          have HN := Lib.hid q1
          clear q1
          go_wp2_with fail
          go_ret
          exact HFIN.out _ _ _ _ (fun hq => absurd (HQ.out hq).1 HN.out) HH4.out HK4.out
set_option maxHeartbeats 16000000 in
set_option maxRecDepth 100000 in
theorem step1_c (h : PA W p q t k ss rb st sk n nk O OK w) (hk : 0 ≤ k ∧ k ≤ 900000) (x : OC) (hx : OCk W x) (hd : x.do_ = 1) :
    Calls Tryz.prog 10 #[.pointer (some ⟨p, 0, none⟩), .pointer (some ⟨q, 0, none⟩), .agg (ocL x).toArray] w (StP W w p q t k ss rb x st sk n nk O OK) := by
  have hA : Below w.heap.size w (w.alloc (.cells (ocL x).toArray 36)) := (Below.refl _ _).alloc (Nat.le_refl _) _
  have hbx := Box.new w 36 (ocL x).toArray
  obtain ⟨x0, x1, x2, x3, x4, x5, x6, x7, x8, x9, x10, xl⟩ := occ11 hbx
  have hP := h.later hA
  have cf := ka_find hP x.g
  have HX := Lib.hid hbx
  have HP := Lib.hid hP
  have HA := Lib.hid hA
  have HK := Lib.hid hk
  have HO := Lib.hid hx
  clear hA hbx hP h hk hx
  rw [hd] at x0
  go_enter Tryz.func10, Tryz.ntmps10
  go_wp2_with fail
  with_reducible refine cf.mono ?_
  rintro en w2 ⟨hb, hcase⟩
  have H2 := Lib.hid (HP.out.later hb)
  have HB2 := Lib.hid (HX.out.later hb)
  have HK2 := Lib.hid ((KB.of_below HA.out).trans (KB.of_below hb))
  clear x0 x1 x2 x3 x4 x5 x6 x7 x8 x9 x10 xl cf hb HP HX HA
  obtain ⟨x0, x1, x2, x3, x4, x5, x6, x7, x8, x9, x10, xl⟩ := occ11 HB2.out
  rw [hd] at x0
  have HD := Lib.hid hd
  clear hd
  have hK2 := HK.out.2
  rcases hcase with ⟨gb, GG, rfl, cg, hgl, hG0, hG1⟩ | rfl
  · go_upto_region 3 with fail
    go_cut [43] from 29 to 43 (fun v wx => (∃ z : Bool, v = .bool z) ∧ w2 = wx)
    case first =>
      go_wp2_with fail
      all_goals
        go_meet
        exact ⟨⟨_, rfl⟩, rfl⟩
    case rest =>
      obtain ⟨⟨zb, rfl⟩, rfl⟩ := hcut
      go_upto_if 43 with fail
      go_cut [7] from 44 to 49 (fun v wx => (∃ z : Int, v = .int .i64 z) ∧ w2 = wx)
      case first =>
        cases zb
        all_goals
          go_wp2_with fail
          go_meet
          exact ⟨⟨_, rfl⟩, rfl⟩
      case rest =>
        obtain ⟨⟨z, rfl⟩, rfl⟩ := hcut
        have HFIN : Hid (∀ (b : Bool) (w' : World), (stepQ x z st sk n nk ss rb O OK → b = true) → PA W p q t k ss rb (putSt st x.g.data.toList ((st x.g.data.toList).map (syncD x.m z x.P x.rnd x.now))) (putSt sk x.g.data.toList ((sk x.g.data.toList).map (syncD x.m z x.P x.rnd x.now))) n nk O OK w' → KB w w' → StP W w p q t k ss rb x st sk n nk O OK (.returned (.bool b)) w') := Lib.hid (fun b w' hq hp hkb => ⟨b, true, z, n, nk, rfl, hq, .inl rfl, by
          have hs1 : stepSt x z st n ss rb = (putSt st x.g.data.toList ((st x.g.data.toList).map (syncD x.m z x.P x.rnd x.now))) := by unfold stepSt; simp [HD.out]
          have hs2 : stepSk x z sk nk ss rb = (putSt sk x.g.data.toList ((sk x.g.data.toList).map (syncD x.m z x.P x.rnd x.now))) := by unfold stepSk; simp [HD.out]
          have ho : ∀ L, stepOO x true L = L := fun L => by unfold stepOO; simp [HD.out]
          rw [hs1, hs2, ho, ho]
          exact hp.bump (by omega), hkb⟩)
        have c1 := pa_sync H2.out x.g HO.out.g x.m z x.now x.P x.PA x.pc x.rnd HO.out.top HO.out.pl HO.out.pz
        go_wp2_with fail
        with_reducible refine c1.mono ?_
        rintro en w3 ⟨A2, c2', rfl, hr2, H3, hkb⟩
        have hlen := PA.sync_len H3
        obtain ⟨x0, x1, x2, x3, x4, x5, x6, x7, x8, x9, x10, xl⟩ := occ11 (hkb.op HB2.out)
        have HB3 := Lib.hid (hkb.op HB2.out)
        have HK3 := Lib.hid (HK2.out.trans hkb)
        have c2 := ka_sync H3 x.g x.m z x.now x.P x.PA x.pc x.rnd HO.out.top HO.out.pl HO.out.pz
        clear c1 H3 hkb cg hgl
        go_wp2_with fail
        with_reducible refine c2.mono ?_
        rintro en w4 ⟨A3, c3, Q, rfl, hr3, H4, hkb⟩
        have hP := prt_in (hkb.row hr2 (by decide) (by decide) (by unfold kindK; decide))
        have hQ := prt_in hr3
        have HH4 := Lib.hid H4
        have HK4 := Lib.hid (HK3.out.trans hkb)
        have HS1 : Hid (∀ (a b : Bool), a = false ∨ True → (stepQ x z st sk n nk ss rb O OK → b = true)) := Lib.hid (fun a b _ hq => by
          unfold stepQ at hq
          rw [if_neg (by have := HD.out; omega), if_pos HD.out] at hq
          exact hq.elim)
        clear H4 hkb hr2 hr3 c2
        clear x0 x1 x2 x3 x4 x5 x6 x7 x8 x9 x10 xl
        generalize sycP (st x.g.data.toList) x.m z x.P x.rnd x.now = P1 at *
        generalize sycE (st x.g.data.toList) x.m z x.P x.now = e1
        generalize sycE (sk x.g.data.toList) x.m z x.P x.now = e2
        have c4 := samePs_c P1 Q A2 c2' A3 c3 w4 hP hQ hlen
        clear hP hQ
        by_cases hab : e1 = e2
        · subst hab
          go_wp2_with fail
          with_reducible refine c4.mono ?_
          rintro en w5 ⟨b, rfl, n4, rfl⟩
          go_wp2_with fail
          go_ret
          exact HFIN.out _ _ (HS1.out false _ (.inr trivial)) (HH4.out.later (below_drewN (Below.refl _ _) _)) (HK4.out.trans (KB.of_below (below_drewN (Below.refl _ _) _)))
        · have hab' : (e1 == e2) = false := beq_eq_false_iff_ne.2 hab
          clear hab
          go_wp2_with fail
          go_ret
          exact HFIN.out _ _ (HS1.out false _ (.inr trivial)) HH4.out HK4.out
  · go_upto_region 3 with fail
    go_cut [43] from 29 to 43 (fun v wx => v = .bool false ∧ w2 = wx)
    case first =>
      go_wp2_with fail
      all_goals
        go_meet
        exact ⟨rfl, rfl⟩
    case rest =>
      obtain ⟨rfl, rfl⟩ := hcut
      go_upto_if 43 with fail
      go_cut [7] from 44 to 49 (fun v wx => (∃ z : Int, v = .int .i64 z) ∧ w2 = wx)
      case first =>
        go_wp2_with fail
        go_meet
        exact ⟨⟨_, rfl⟩, rfl⟩
      case rest =>
        obtain ⟨⟨z, rfl⟩, rfl⟩ := hcut
        have HFIN : Hid (∀ (b : Bool) (w' : World), (stepQ x z st sk n nk ss rb O OK → b = true) → PA W p q t k ss rb (putSt st x.g.data.toList ((st x.g.data.toList).map (syncD x.m z x.P x.rnd x.now))) (putSt sk x.g.data.toList ((sk x.g.data.toList).map (syncD x.m z x.P x.rnd x.now))) n nk O OK w' → KB w w' → StP W w p q t k ss rb x st sk n nk O OK (.returned (.bool b)) w') := Lib.hid (fun b w' hq hp hkb => ⟨b, true, z, n, nk, rfl, hq, .inl rfl, by
          have hs1 : stepSt x z st n ss rb = (putSt st x.g.data.toList ((st x.g.data.toList).map (syncD x.m z x.P x.rnd x.now))) := by unfold stepSt; simp [HD.out]
          have hs2 : stepSk x z sk nk ss rb = (putSt sk x.g.data.toList ((sk x.g.data.toList).map (syncD x.m z x.P x.rnd x.now))) := by unfold stepSk; simp [HD.out]
          have ho : ∀ L, stepOO x true L = L := fun L => by unfold stepOO; simp [HD.out]
          rw [hs1, hs2, ho, ho]
          exact hp.bump (by omega), hkb⟩)
        have c1 := pa_sync H2.out x.g HO.out.g x.m z x.now x.P x.PA x.pc x.rnd HO.out.top HO.out.pl HO.out.pz
        go_wp2_with fail
        with_reducible refine c1.mono ?_
        rintro en w3 ⟨A2, c2', rfl, hr2, H3, hkb⟩
        have hlen := PA.sync_len H3
        obtain ⟨x0, x1, x2, x3, x4, x5, x6, x7, x8, x9, x10, xl⟩ := occ11 (hkb.op HB2.out)
        have HB3 := Lib.hid (hkb.op HB2.out)
        have HK3 := Lib.hid (HK2.out.trans hkb)
        have c2 := ka_sync H3 x.g x.m z x.now x.P x.PA x.pc x.rnd HO.out.top HO.out.pl HO.out.pz
        clear c1 H3 hkb
        go_wp2_with fail
        with_reducible refine c2.mono ?_
        rintro en w4 ⟨A3, c3, Q, rfl, hr3, H4, hkb⟩
        have hP := prt_in (hkb.row hr2 (by decide) (by decide) (by unfold kindK; decide))
        have hQ := prt_in hr3
        have HH4 := Lib.hid H4
        have HK4 := Lib.hid (HK3.out.trans hkb)
        have HS1 : Hid (∀ (a b : Bool), a = false ∨ True → (stepQ x z st sk n nk ss rb O OK → b = true)) := Lib.hid (fun a b _ hq => by
          unfold stepQ at hq
          rw [if_neg (by have := HD.out; omega), if_pos HD.out] at hq
          exact hq.elim)
        clear H4 hkb hr2 hr3 c2
        clear x0 x1 x2 x3 x4 x5 x6 x7 x8 x9 x10 xl
        generalize sycP (st x.g.data.toList) x.m z x.P x.rnd x.now = P1 at *
        generalize sycE (st x.g.data.toList) x.m z x.P x.now = e1
        generalize sycE (sk x.g.data.toList) x.m z x.P x.now = e2
        have c4 := samePs_c P1 Q A2 c2' A3 c3 w4 hP hQ hlen
        clear hP hQ
        by_cases hab : e1 = e2
        · subst hab
          go_wp2_with fail
          with_reducible refine c4.mono ?_
          rintro en w5 ⟨b, rfl, n4, rfl⟩
          go_wp2_with fail
          go_ret
          exact HFIN.out _ _ (HS1.out false _ (.inr trivial)) (HH4.out.later (below_drewN (Below.refl _ _) _)) (HK4.out.trans (KB.of_below (below_drewN (Below.refl _ _) _)))
        · have hab' : (e1 == e2) = false := beq_eq_false_iff_ne.2 hab
          clear hab
          go_wp2_with fail
          go_ret
          exact HFIN.out _ _ (HS1.out false _ (.inr trivial)) HH4.out HK4.out
set_option maxHeartbeats 16000000 in
set_option maxRecDepth 100000 in
theorem step2_c (h : PA W p q t k ss rb st sk n nk O OK w) (hk : 0 ≤ k ∧ k ≤ 900000) (x : OC) (hx : OCk W x) (hd : x.do_ = 2) :
    Calls Tryz.prog 10 #[.pointer (some ⟨p, 0, none⟩), .pointer (some ⟨q, 0, none⟩), .agg (ocL x).toArray] w (StP W w p q t k ss rb x st sk n nk O OK) := by
  have hA : Below w.heap.size w (w.alloc (.cells (ocL x).toArray 36)) := (Below.refl _ _).alloc (Nat.le_refl _) _
  have hbx := Box.new w 36 (ocL x).toArray
  obtain ⟨x0, x1, x2, x3, x4, x5, x6, x7, x8, x9, x10, xl⟩ := occ11 hbx
  have hP := h.later hA
  have cf := ka_find hP x.g
  have HX := Lib.hid hbx
  have HP := Lib.hid hP
  have HA := Lib.hid hA
  have HK := Lib.hid hk
  have HO := Lib.hid hx
  clear hA hbx hP h hk hx
  rw [hd] at x0
  go_enter Tryz.func10, Tryz.ntmps10
  go_wp2_with fail
  with_reducible refine cf.mono ?_
  rintro en w2 ⟨hb, hcase⟩
  have H2 := Lib.hid (HP.out.later hb)
  have HB2 := Lib.hid (HX.out.later hb)
  have HK2 := Lib.hid ((KB.of_below HA.out).trans (KB.of_below hb))
  clear x0 x1 x2 x3 x4 x5 x6 x7 x8 x9 x10 xl cf hb HP HX HA
  obtain ⟨x0, x1, x2, x3, x4, x5, x6, x7, x8, x9, x10, xl⟩ := occ11 HB2.out
  rw [hd] at x0
  have HD := Lib.hid hd
  clear hd
  have hK2 := HK.out.2
  rcases hcase with ⟨gb, GG, rfl, cg, hgl, hG0, hG1⟩ | rfl
  · go_upto_region 3 with fail
    go_cut [43] from 29 to 43 (fun v wx => (∃ z : Bool, v = .bool z) ∧ w2 = wx)
    case first =>
      go_wp2_with fail
      all_goals
        go_meet
        exact ⟨⟨_, rfl⟩, rfl⟩
    case rest =>
      obtain ⟨⟨zb, rfl⟩, rfl⟩ := hcut
      go_upto_if 43 with fail
      go_cut [7] from 44 to 49 (fun v wx => (∃ z : Int, v = .int .i64 z) ∧ w2 = wx)
      case first =>
        cases zb
        all_goals
          go_wp2_with fail
          go_meet
          exact ⟨⟨_, rfl⟩, rfl⟩
      case rest =>
        obtain ⟨⟨z, rfl⟩, rfl⟩ := hcut
        have HFIN : Hid (∀ (b : Bool) (w' : World), (stepQ x z st sk n nk ss rb O OK → b = true) → PA W p q t k ss rb (putSt st x.g.data.toList ((st x.g.data.toList).map (beatD x.m z x.now))) (putSt sk x.g.data.toList ((sk x.g.data.toList).map (beatD x.m z x.now))) n nk O OK w' → KB w w' → StP W w p q t k ss rb x st sk n nk O OK (.returned (.bool b)) w') := Lib.hid (fun b w' hq hp hkb => ⟨b, true, z, n, nk, rfl, hq, .inl rfl, by
          have hs1 : stepSt x z st n ss rb = (putSt st x.g.data.toList ((st x.g.data.toList).map (beatD x.m z x.now))) := by unfold stepSt; simp [HD.out]
          have hs2 : stepSk x z sk nk ss rb = (putSt sk x.g.data.toList ((sk x.g.data.toList).map (beatD x.m z x.now))) := by unfold stepSk; simp [HD.out]
          have ho : ∀ L, stepOO x true L = L := fun L => by unfold stepOO; simp [HD.out]
          rw [hs1, hs2, ho, ho]
          exact hp.bump (by omega), hkb⟩)
        have HT := Lib.hid (⟨H2.out.later (Below.refl _ _).drew, HB2.out.drew, HK2.out.trans (KB.of_below (Below.refl _ _).drew)⟩ : PO W w p q t k ss rb st sk n nk O OK w.heap.size x w2.drew)
        have c1 : Calls Tryz.prog 16 #[.pointer (some ⟨p, 0, none⟩), .string x.g, .int .i64 x.m, .int .i64 z, .int .i64 x.now] w2.drew (fun en w' => en = .returned (.int .i64 (beaCE (st x.g.data.toList) x.m z x.now)) ∧ PO W w p q t k ss rb (putSt st x.g.data.toList ((st x.g.data.toList).map (beatD x.m z x.now))) sk n nk O OK w.heap.size x w') := (pa_beat HT.out.pa x.g HO.out.g x.m z x.now).mono (by
          rintro en w3 ⟨rfl, H3, hkb⟩
          exact ⟨rfl, H3, hkb.op HT.out.bx, HT.out.kb.trans hkb⟩)
        have C2 : Hid (∀ w', PO W w p q t k ss rb (putSt st x.g.data.toList ((st x.g.data.toList).map (beatD x.m z x.now))) sk n nk O OK w.heap.size x w' → Calls Tryz.prog 29 #[.pointer (some ⟨q, 0, none⟩), .string x.g, .int .i64 x.m, .int .i64 z, .int .i64 x.now] w' (fun en w'' => en = .returned (.int .i64 (kbeCE (sk x.g.data.toList) x.m z x.now)) ∧ PO W w p q t k ss rb (putSt st x.g.data.toList ((st x.g.data.toList).map (beatD x.m z x.now))) (putSt sk x.g.data.toList ((sk x.g.data.toList).map (beatD x.m z x.now))) n nk O OK w.heap.size x w'')) := Lib.hid (fun w' hw => (ka_beat hw.pa (by have := HK.out.2; omega) x.g x.m z x.now).mono (by
          rintro en w3 ⟨rfl, H3, hkb⟩
          exact ⟨rfl, H3, hkb.op hw.bx, hw.kb.trans hkb⟩))
        have HQ : Hid (stepQ x z st sk n nk ss rb O OK → (beaCE (st x.g.data.toList) x.m z x.now) = (kbeCE (sk x.g.data.toList) x.m z x.now)) := Lib.hid (fun hq => by
          unfold stepQ at hq
          simpa [HD.out] using hq)
        generalize (beaCE (st x.g.data.toList) x.m z x.now) = r1 at *
        generalize (kbeCE (sk x.g.data.toList) x.m z x.now) = r2 at *
        clear cg hgl HB2 HK2 H2
        go_wp2_with fail
        go_region_held3 (fun wq => wq.cell? ⟨w.heap.size, 1, none⟩ = some (.string x.g) ∧ wq.cell? ⟨w.heap.size, 2, none⟩ = some (.int .i64 x.m) ∧ wq.cell? ⟨w.heap.size, 10, none⟩ = some (.int .i64 x.now))
          (first | exact ⟨x1, x2, x10⟩ | exact PO.cells2 (by assumption))
          (first | ((with_reducible refine c1.mono ?_); rintro e w3 ⟨rfl, ht1⟩) | ((with_reducible refine (C2.out _ (by assumption)).mono ?_); rintro e w4 ⟨rfl, ht2⟩))
        all_goals
          have H9 : PO W w p q t k ss rb (putSt st x.g.data.toList ((st x.g.data.toList).map (beatD x.m z x.now))) (putSt sk x.g.data.toList ((sk x.g.data.toList).map (beatD x.m z x.now))) n nk O OK w.heap.size x w4 := by assumption
          have HP9 := Lib.hid H9
          clear H9 ht2 ht1 c1 C2
          go_wp2_with fail
          go_ret
          exact HFIN.out _ _ (fun hq => by rw [HQ.out hq]; simp) HP9.out.pa HP9.out.kb
  · go_upto_region 3 with fail
    go_cut [43] from 29 to 43 (fun v wx => v = .bool false ∧ w2 = wx)
    case first =>
      go_wp2_with fail
      all_goals
        go_meet
        exact ⟨rfl, rfl⟩
    case rest =>
      obtain ⟨rfl, rfl⟩ := hcut
      go_upto_if 43 with fail
      go_cut [7] from 44 to 49 (fun v wx => (∃ z : Int, v = .int .i64 z) ∧ w2 = wx)
      case first =>
        go_wp2_with fail
        go_meet
        exact ⟨⟨_, rfl⟩, rfl⟩
      case rest =>
        obtain ⟨⟨z, rfl⟩, rfl⟩ := hcut
        have HFIN : Hid (∀ (b : Bool) (w' : World), (stepQ x z st sk n nk ss rb O OK → b = true) → PA W p q t k ss rb (putSt st x.g.data.toList ((st x.g.data.toList).map (beatD x.m z x.now))) (putSt sk x.g.data.toList ((sk x.g.data.toList).map (beatD x.m z x.now))) n nk O OK w' → KB w w' → StP W w p q t k ss rb x st sk n nk O OK (.returned (.bool b)) w') := Lib.hid (fun b w' hq hp hkb => ⟨b, true, z, n, nk, rfl, hq, .inl rfl, by
          have hs1 : stepSt x z st n ss rb = (putSt st x.g.data.toList ((st x.g.data.toList).map (beatD x.m z x.now))) := by unfold stepSt; simp [HD.out]
          have hs2 : stepSk x z sk nk ss rb = (putSt sk x.g.data.toList ((sk x.g.data.toList).map (beatD x.m z x.now))) := by unfold stepSk; simp [HD.out]
          have ho : ∀ L, stepOO x true L = L := fun L => by unfold stepOO; simp [HD.out]
          rw [hs1, hs2, ho, ho]
          exact hp.bump (by omega), hkb⟩)
        have HT := Lib.hid (⟨H2.out.later (Below.refl _ _).drew, HB2.out.drew, HK2.out.trans (KB.of_below (Below.refl _ _).drew)⟩ : PO W w p q t k ss rb st sk n nk O OK w.heap.size x w2.drew)
        have c1 : Calls Tryz.prog 16 #[.pointer (some ⟨p, 0, none⟩), .string x.g, .int .i64 x.m, .int .i64 z, .int .i64 x.now] w2.drew (fun en w' => en = .returned (.int .i64 (beaCE (st x.g.data.toList) x.m z x.now)) ∧ PO W w p q t k ss rb (putSt st x.g.data.toList ((st x.g.data.toList).map (beatD x.m z x.now))) sk n nk O OK w.heap.size x w') := (pa_beat HT.out.pa x.g HO.out.g x.m z x.now).mono (by
          rintro en w3 ⟨rfl, H3, hkb⟩
          exact ⟨rfl, H3, hkb.op HT.out.bx, HT.out.kb.trans hkb⟩)
        have C2 : Hid (∀ w', PO W w p q t k ss rb (putSt st x.g.data.toList ((st x.g.data.toList).map (beatD x.m z x.now))) sk n nk O OK w.heap.size x w' → Calls Tryz.prog 29 #[.pointer (some ⟨q, 0, none⟩), .string x.g, .int .i64 x.m, .int .i64 z, .int .i64 x.now] w' (fun en w'' => en = .returned (.int .i64 (kbeCE (sk x.g.data.toList) x.m z x.now)) ∧ PO W w p q t k ss rb (putSt st x.g.data.toList ((st x.g.data.toList).map (beatD x.m z x.now))) (putSt sk x.g.data.toList ((sk x.g.data.toList).map (beatD x.m z x.now))) n nk O OK w.heap.size x w'')) := Lib.hid (fun w' hw => (ka_beat hw.pa (by have := HK.out.2; omega) x.g x.m z x.now).mono (by
          rintro en w3 ⟨rfl, H3, hkb⟩
          exact ⟨rfl, H3, hkb.op hw.bx, hw.kb.trans hkb⟩))
        have HQ : Hid (stepQ x z st sk n nk ss rb O OK → (beaCE (st x.g.data.toList) x.m z x.now) = (kbeCE (sk x.g.data.toList) x.m z x.now)) := Lib.hid (fun hq => by
          unfold stepQ at hq
          simpa [HD.out] using hq)
        generalize (beaCE (st x.g.data.toList) x.m z x.now) = r1 at *
        generalize (kbeCE (sk x.g.data.toList) x.m z x.now) = r2 at *
        clear HB2 HK2 H2
        go_wp2_with fail
        go_region_held3 (fun wq => wq.cell? ⟨w.heap.size, 1, none⟩ = some (.string x.g) ∧ wq.cell? ⟨w.heap.size, 2, none⟩ = some (.int .i64 x.m) ∧ wq.cell? ⟨w.heap.size, 10, none⟩ = some (.int .i64 x.now))
          (first | exact ⟨x1, x2, x10⟩ | exact PO.cells2 (by assumption))
          (first | ((with_reducible refine c1.mono ?_); rintro e w3 ⟨rfl, ht1⟩) | ((with_reducible refine (C2.out _ (by assumption)).mono ?_); rintro e w4 ⟨rfl, ht2⟩))
        all_goals
          have H9 : PO W w p q t k ss rb (putSt st x.g.data.toList ((st x.g.data.toList).map (beatD x.m z x.now))) (putSt sk x.g.data.toList ((sk x.g.data.toList).map (beatD x.m z x.now))) n nk O OK w.heap.size x w4 := by assumption
          have HP9 := Lib.hid H9
          clear H9 ht2 ht1 c1 C2
          go_wp2_with fail
          go_ret
          exact HFIN.out _ _ (fun hq => by rw [HQ.out hq]; simp) HP9.out.pa HP9.out.kb
end
end Go.Proofs.YtlokhhjhckiloaaGreat
