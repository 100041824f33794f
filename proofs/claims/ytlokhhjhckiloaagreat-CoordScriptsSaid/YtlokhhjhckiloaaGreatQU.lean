/- coord: merged texts. What each proves is told at its head. -/
import Derived.Test.YtlokhhjhckiloaaGreatQ5
/- coord: a step of both coordinators, by a contract. No condition but that calls are not too many. -/
namespace Go.Proofs.YtlokhhjhckiloaaGreat
open Go.RowKit Go.Maps Go.ChangeMaps Go.WideMaps
set_option linter.unusedVariables false
section
variable {W w w' : World} {p q t : Nat} {k ss rb : Int} {st sk : List UInt8 → Option GD} {n nk : Nat} {O OK : List Of.KE}
set_option maxHeartbeats 16000000 in
set_option maxRecDepth 100000 in
theorem step3_c (h : PA W p q t k ss rb st sk n nk O OK w) (hk : 0 ≤ k ∧ k ≤ 900000) (x : OC) (hx : OCk W x) (hd : x.do_ = 3) :
    Calls Tryz.prog 10 #[.pointer (some ⟨p, 0, none⟩), .pointer (some ⟨q, 0, none⟩), .agg (ocL x).toArray] w (StP W w p q t k ss rb x st sk n nk O OK) := by
  have hA : Below w.heap.size w (w.alloc (.cells (ocL x).toArray 36)) := (Below.refl _ _).alloc (Nat.le_refl _) _
  have hbx := Box.new w 36 (ocL x).toArray
  obtain ⟨x0, x1, x2, x3, x4, x5, x6, x7, x8, x9, x10, xl⟩ := occ11 hbx
  have hP := h.later hA
  have cf := ka_find hP x.g
  have HX := Lib.hid hbx
  have HP := Lib.hid hP
  have HA := Lib.hid hA
  have HK := Lib.hid hk
  have HO := Lib.hid hx
  clear hA hbx hP h hk hx
  rw [hd] at x0
  go_enter Tryz.func10, Tryz.ntmps10
  go_wp2_with fail
  with_reducible refine cf.mono ?_
  rintro en w2 ⟨hb, hcase⟩
  have H2 := Lib.hid (HP.out.later hb)
  have HB2 := Lib.hid (HX.out.later hb)
  have HK2 := Lib.hid ((KB.of_below HA.out).trans (KB.of_below hb))
  clear x0 x1 x2 x3 x4 x5 x6 x7 x8 x9 x10 xl cf hb HP HX HA
  obtain ⟨x0, x1, x2, x3, x4, x5, x6, x7, x8, x9, x10, xl⟩ := occ11 HB2.out
  rw [hd] at x0
  have HD := Lib.hid hd
  clear hd
  have hK2 := HK.out.2
  rcases hcase with ⟨gb, GG, rfl, cg, hgl, hG0, hG1⟩ | rfl
  · go_upto_region 3 with fail
    go_cut [43] from 29 to 43 (fun v wx => (∃ z : Bool, v = .bool z) ∧ w2 = wx)
    case first =>
      go_wp2_with fail
      all_goals
        go_meet
        exact ⟨⟨_, rfl⟩, rfl⟩
    case rest =>
      obtain ⟨⟨zb, rfl⟩, rfl⟩ := hcut
      go_upto_if 43 with fail
      go_cut [7] from 44 to 49 (fun v wx => (∃ z : Int, v = .int .i64 z) ∧ w2 = wx)
      case first =>
        cases zb
        all_goals
          go_wp2_with fail
          go_meet
          exact ⟨⟨_, rfl⟩, rfl⟩
      case rest =>
        obtain ⟨⟨z, rfl⟩, rfl⟩ := hcut
        have HFIN : Hid (∀ (b : Bool) (w' : World), (stepQ x z st sk n nk ss rb O OK → b = true) → PA W p q t (k + 1 + 1) ss rb (putSt st x.g.data.toList ((st x.g.data.toList).map (leaveD x.m x.now))) (putSt sk x.g.data.toList ((sk x.g.data.toList).map (kleaveD x.m x.now))) n nk O OK w' → KB w w' → StP W w p q t k ss rb x st sk n nk O OK (.returned (.bool b)) w') := Lib.hid (fun b w' hq hp hkb => ⟨b, true, z, n, nk, rfl, hq, .inl rfl, by
          have hs1 : stepSt x z st n ss rb = (putSt st x.g.data.toList ((st x.g.data.toList).map (leaveD x.m x.now))) := by unfold stepSt; simp [HD.out]
          have hs2 : stepSk x z sk nk ss rb = (putSt sk x.g.data.toList ((sk x.g.data.toList).map (kleaveD x.m x.now))) := by unfold stepSk; simp [HD.out]
          have ho : ∀ L, stepOO x true L = L := fun L => by unfold stepOO; simp [HD.out]
          rw [hs1, hs2, ho, ho]
          exact hp.bump (by omega), hkb⟩)
        have HT := Lib.hid (⟨H2.out.later (Below.refl _ _).drew, HB2.out.drew, HK2.out.trans (KB.of_below (Below.refl _ _).drew)⟩ : PO W w p q t k ss rb st sk n nk O OK w.heap.size x w2.drew)
        have c1 : Calls Tryz.prog 17 #[.pointer (some ⟨p, 0, none⟩), .string x.g, .int .i64 x.m, .int .i64 x.now] w2.drew (fun en w' => en = .returned (.int .i64 (leaCE (st x.g.data.toList) x.m x.now)) ∧ PO W w p q t (k + 1) ss rb (putSt st x.g.data.toList ((st x.g.data.toList).map (leaveD x.m x.now))) sk n nk O OK w.heap.size x w') := (pa_leave HT.out.pa (by have := HK.out.2; omega) x.g HO.out.g x.m x.now).mono (by
          rintro en w3 ⟨rfl, H3, hkb⟩
          exact ⟨rfl, H3, hkb.op HT.out.bx, HT.out.kb.trans hkb⟩)
        have C2 : Hid (∀ w', PO W w p q t (k + 1) ss rb (putSt st x.g.data.toList ((st x.g.data.toList).map (leaveD x.m x.now))) sk n nk O OK w.heap.size x w' → Calls Tryz.prog 30 #[.pointer (some ⟨q, 0, none⟩), .string x.g, .int .i64 x.m, .int .i64 x.now] w' (fun en w'' => en = .returned (.int .i64 (kleCE (sk x.g.data.toList) x.m x.now)) ∧ PO W w p q t (k + 1 + 1) ss rb (putSt st x.g.data.toList ((st x.g.data.toList).map (leaveD x.m x.now))) (putSt sk x.g.data.toList ((sk x.g.data.toList).map (kleaveD x.m x.now))) n nk O OK w.heap.size x w'')) := Lib.hid (fun w' hw => (ka_leave hw.pa (by have := HK.out.2; omega) x.g x.m x.now).mono (by
          rintro en w3 ⟨rfl, H3, hkb⟩
          exact ⟨rfl, H3, hkb.op hw.bx, hw.kb.trans hkb⟩))
        have HQ : Hid (stepQ x z st sk n nk ss rb O OK → (leaCE (st x.g.data.toList) x.m x.now) = (kleCE (sk x.g.data.toList) x.m x.now)) := Lib.hid (fun hq => by
          unfold stepQ at hq
          simpa [HD.out] using hq)
        generalize (leaCE (st x.g.data.toList) x.m x.now) = r1 at *
        generalize (kleCE (sk x.g.data.toList) x.m x.now) = r2 at *
        clear cg hgl HB2 HK2 H2
        go_wp2_with fail
        go_region_held3 (fun wq => wq.cell? ⟨w.heap.size, 1, none⟩ = some (.string x.g) ∧ wq.cell? ⟨w.heap.size, 2, none⟩ = some (.int .i64 x.m) ∧ wq.cell? ⟨w.heap.size, 10, none⟩ = some (.int .i64 x.now))
          (first | exact ⟨x1, x2, x10⟩ | exact PO.cells2 (by assumption))
          (first | ((with_reducible refine c1.mono ?_); rintro e w3 ⟨rfl, ht1⟩) | ((with_reducible refine (C2.out _ (by assumption)).mono ?_); rintro e w4 ⟨rfl, ht2⟩))
        all_goals
          have H9 : PO W w p q t (k + 1 + 1) ss rb (putSt st x.g.data.toList ((st x.g.data.toList).map (leaveD x.m x.now))) (putSt sk x.g.data.toList ((sk x.g.data.toList).map (kleaveD x.m x.now))) n nk O OK w.heap.size x w4 := by assumption
          have HP9 := Lib.hid H9
          clear H9 ht2 ht1 c1 C2
          go_wp2_with fail
          go_ret
          exact HFIN.out _ _ (fun hq => by rw [HQ.out hq]; simp) HP9.out.pa HP9.out.kb
  · go_upto_region 3 with fail
    go_cut [43] from 29 to 43 (fun v wx => v = .bool false ∧ w2 = wx)
    case first =>
      go_wp2_with fail
      all_goals
        go_meet
        exact ⟨rfl, rfl⟩
    case rest =>
      obtain ⟨rfl, rfl⟩ := hcut
      go_upto_if 43 with fail
      go_cut [7] from 44 to 49 (fun v wx => (∃ z : Int, v = .int .i64 z) ∧ w2 = wx)
      case first =>
        go_wp2_with fail
        go_meet
        exact ⟨⟨_, rfl⟩, rfl⟩
      case rest =>
        obtain ⟨⟨z, rfl⟩, rfl⟩ := hcut
        have HFIN : Hid (∀ (b : Bool) (w' : World), (stepQ x z st sk n nk ss rb O OK → b = true) → PA W p q t (k + 1 + 1) ss rb (putSt st x.g.data.toList ((st x.g.data.toList).map (leaveD x.m x.now))) (putSt sk x.g.data.toList ((sk x.g.data.toList).map (kleaveD x.m x.now))) n nk O OK w' → KB w w' → StP W w p q t k ss rb x st sk n nk O OK (.returned (.bool b)) w') := Lib.hid (fun b w' hq hp hkb => ⟨b, true, z, n, nk, rfl, hq, .inl rfl, by
          have hs1 : stepSt x z st n ss rb = (putSt st x.g.data.toList ((st x.g.data.toList).map (leaveD x.m x.now))) := by unfold stepSt; simp [HD.out]
          have hs2 : stepSk x z sk nk ss rb = (putSt sk x.g.data.toList ((sk x.g.data.toList).map (kleaveD x.m x.now))) := by unfold stepSk; simp [HD.out]
          have ho : ∀ L, stepOO x true L = L := fun L => by unfold stepOO; simp [HD.out]
          rw [hs1, hs2, ho, ho]
          exact hp.bump (by omega), hkb⟩)
        have HT := Lib.hid (⟨H2.out.later (Below.refl _ _).drew, HB2.out.drew, HK2.out.trans (KB.of_below (Below.refl _ _).drew)⟩ : PO W w p q t k ss rb st sk n nk O OK w.heap.size x w2.drew)
        have c1 : Calls Tryz.prog 17 #[.pointer (some ⟨p, 0, none⟩), .string x.g, .int .i64 x.m, .int .i64 x.now] w2.drew (fun en w' => en = .returned (.int .i64 (leaCE (st x.g.data.toList) x.m x.now)) ∧ PO W w p q t (k + 1) ss rb (putSt st x.g.data.toList ((st x.g.data.toList).map (leaveD x.m x.now))) sk n nk O OK w.heap.size x w') := (pa_leave HT.out.pa (by have := HK.out.2; omega) x.g HO.out.g x.m x.now).mono (by
          rintro en w3 ⟨rfl, H3, hkb⟩
          exact ⟨rfl, H3, hkb.op HT.out.bx, HT.out.kb.trans hkb⟩)
        have C2 : Hid (∀ w', PO W w p q t (k + 1) ss rb (putSt st x.g.data.toList ((st x.g.data.toList).map (leaveD x.m x.now))) sk n nk O OK w.heap.size x w' → Calls Tryz.prog 30 #[.pointer (some ⟨q, 0, none⟩), .string x.g, .int .i64 x.m, .int .i64 x.now] w' (fun en w'' => en = .returned (.int .i64 (kleCE (sk x.g.data.toList) x.m x.now)) ∧ PO W w p q t (k + 1 + 1) ss rb (putSt st x.g.data.toList ((st x.g.data.toList).map (leaveD x.m x.now))) (putSt sk x.g.data.toList ((sk x.g.data.toList).map (kleaveD x.m x.now))) n nk O OK w.heap.size x w'')) := Lib.hid (fun w' hw => (ka_leave hw.pa (by have := HK.out.2; omega) x.g x.m x.now).mono (by
          rintro en w3 ⟨rfl, H3, hkb⟩
          exact ⟨rfl, H3, hkb.op hw.bx, hw.kb.trans hkb⟩))
        have HQ : Hid (stepQ x z st sk n nk ss rb O OK → (leaCE (st x.g.data.toList) x.m x.now) = (kleCE (sk x.g.data.toList) x.m x.now)) := Lib.hid (fun hq => by
          unfold stepQ at hq
          simpa [HD.out] using hq)
        generalize (leaCE (st x.g.data.toList) x.m x.now) = r1 at *
        generalize (kleCE (sk x.g.data.toList) x.m x.now) = r2 at *
        clear HB2 HK2 H2
        go_wp2_with fail
        go_region_held3 (fun wq => wq.cell? ⟨w.heap.size, 1, none⟩ = some (.string x.g) ∧ wq.cell? ⟨w.heap.size, 2, none⟩ = some (.int .i64 x.m) ∧ wq.cell? ⟨w.heap.size, 10, none⟩ = some (.int .i64 x.now))
          (first | exact ⟨x1, x2, x10⟩ | exact PO.cells2 (by assumption))
          (first | ((with_reducible refine c1.mono ?_); rintro e w3 ⟨rfl, ht1⟩) | ((with_reducible refine (C2.out _ (by assumption)).mono ?_); rintro e w4 ⟨rfl, ht2⟩))
        all_goals
          have H9 : PO W w p q t (k + 1 + 1) ss rb (putSt st x.g.data.toList ((st x.g.data.toList).map (leaveD x.m x.now))) (putSt sk x.g.data.toList ((sk x.g.data.toList).map (kleaveD x.m x.now))) n nk O OK w.heap.size x w4 := by assumption
          have HP9 := Lib.hid H9
          clear H9 ht2 ht1 c1 C2
          go_wp2_with fail
          go_ret
          exact HFIN.out _ _ (fun hq => by rw [HQ.out hq]; simp) HP9.out.pa HP9.out.kb
set_option maxHeartbeats 16000000 in
set_option maxRecDepth 100000 in
theorem step5_c (h : PA W p q t k ss rb st sk n nk O OK w) (hk : 0 ≤ k ∧ k ≤ 900000) (x : OC) (hx : OCk W x) (hd : x.do_ = 5) :
    Calls Tryz.prog 10 #[.pointer (some ⟨p, 0, none⟩), .pointer (some ⟨q, 0, none⟩), .agg (ocL x).toArray] w (StP W w p q t k ss rb x st sk n nk O OK) := by
  have hA : Below w.heap.size w (w.alloc (.cells (ocL x).toArray 36)) := (Below.refl _ _).alloc (Nat.le_refl _) _
  have hbx := Box.new w 36 (ocL x).toArray
  obtain ⟨x0, x1, x2, x3, x4, x5, x6, x7, x8, x9, x10, xl⟩ := occ11 hbx
  have hP := h.later hA
  have cf := ka_find hP x.g
  have HX := Lib.hid hbx
  have HP := Lib.hid hP
  have HA := Lib.hid hA
  have HK := Lib.hid hk
  have HO := Lib.hid hx
  clear hA hbx hP h hk hx
  rw [hd] at x0
  go_enter Tryz.func10, Tryz.ntmps10
  go_wp2_with fail
  with_reducible refine cf.mono ?_
  rintro en w2 ⟨hb, hcase⟩
  have H2 := Lib.hid (HP.out.later hb)
  have HB2 := Lib.hid (HX.out.later hb)
  have HK2 := Lib.hid ((KB.of_below HA.out).trans (KB.of_below hb))
  clear x0 x1 x2 x3 x4 x5 x6 x7 x8 x9 x10 xl cf hb HP HX HA
  obtain ⟨x0, x1, x2, x3, x4, x5, x6, x7, x8, x9, x10, xl⟩ := occ11 HB2.out
  rw [hd] at x0
  have HD := Lib.hid hd
  clear hd
  have hK2 := HK.out.2
  rcases hcase with ⟨gb, GG, rfl, cg, hgl, hG0, hG1⟩ | rfl
  · go_upto_region 3 with fail
    go_cut [43] from 29 to 43 (fun v wx => (∃ z : Bool, v = .bool z) ∧ w2 = wx)
    case first =>
      go_wp2_with fail
      all_goals
        go_meet
        exact ⟨⟨_, rfl⟩, rfl⟩
    case rest =>
      obtain ⟨⟨zb, rfl⟩, rfl⟩ := hcut
      go_upto_if 43 with fail
      go_cut [7] from 44 to 49 (fun v wx => (∃ z : Int, v = .int .i64 z) ∧ w2 = wx)
      case first =>
        cases zb
        all_goals
          go_wp2_with fail
          go_meet
          exact ⟨⟨_, rfl⟩, rfl⟩
      case rest =>
        obtain ⟨⟨z, rfl⟩, rfl⟩ := hcut
        have HFIN : Hid (∀ (b : Bool) (w' : World), (stepQ x z st sk n nk ss rb O OK → b = true) → PA W p q t k ss rb st sk n nk O OK w' → KB w w' → StP W w p q t k ss rb x st sk n nk O OK (.returned (.bool b)) w') := Lib.hid (fun b w' hq hp hkb => ⟨b, true, z, n, nk, rfl, hq, .inl rfl, by
          have hs1 : stepSt x z st n ss rb = st := by unfold stepSt; simp [HD.out]
          have hs2 : stepSk x z sk nk ss rb = sk := by unfold stepSk; simp [HD.out]
          have ho : ∀ L, stepOO x true L = L := fun L => by unfold stepOO; simp [HD.out]
          rw [hs1, hs2, ho, ho]
          exact hp.bump (by omega), hkb⟩)
        have c1 := pa_get H2.out x.g x.pt x.pi (HO.out.ky x.g (by have := HO.out.g; unfold maxLen; omega))
        go_wp2_with fail
        with_reducible refine c1.mono ?_
        rintro en w3 ⟨rfl, hb⟩
        have HB3 := Lib.hid (HB2.out.later hb)
        have HK3 := Lib.hid (HK2.out.trans (KB.of_below hb))
        have HH3 := Lib.hid (H2.out.later hb)
        clear c1 hb cg hgl HB2 HK2 H2
        clear x0 x1 x2 x3 x4 x5 x6 x7 x8 x9 x10 xl
        obtain ⟨x0, x1, x2, x3, x4, x5, x6, x7, x8, x9, x10, xl⟩ := occ11 HB3.out
        have xq := HH3.out.tab
        have c2 := ka_get (HH3.out.later (Below.refl _ _).drew) x.g x.pt x.pi (HO.out.ky x.g (by have := HO.out.g; unfold maxLen; omega))
        have HQ : Hid (stepQ x z st sk n nk ss rb O OK → Of.geR O ⟨x.g, x.pt, x.pi⟩ = Of.geR OK ⟨x.g, x.pt, x.pi⟩) := Lib.hid (fun hq => by
          unfold stepQ at hq
          simpa [HD.out] using hq)
        generalize Of.geR O ⟨x.g, x.pt, x.pi⟩ = r1 at *
        generalize Of.geR OK ⟨x.g, x.pt, x.pi⟩ = r2 at *
        obtain ⟨a1, i1⟩ := r1
        obtain ⟨a2, i2⟩ := r2
        dsimp only at c2 ⊢
        have HK9 : Hid (∀ w', Below w3.drew.heap.size w3.drew w' → w'.cell? ⟨w.heap.size, 1, none⟩ = some (.string x.g) ∧ w'.cell? ⟨w.heap.size, 7, none⟩ = some (.string x.pt) ∧ w'.cell? ⟨w.heap.size, 8, none⟩ = some (.int .i64 x.pi) ∧ w'.cell? ⟨q, 3, none⟩ = some (.pointer (some ⟨t, 0, none⟩))) := Lib.hid (fun w' hb => by
          have hx := HB3.out.drew.later hb
          exact ⟨(hx.cell 1).trans rfl, (hx.cell 7).trans rfl, (hx.cell 8).trans rfl, ((HH3.out.later (Below.refl _ _).drew).later hb).tab⟩)
        go_wp2_with fail
        go_region_held3 (fun wq => wq.cell? ⟨w.heap.size, 1, none⟩ = some (.string x.g) ∧ wq.cell? ⟨w.heap.size, 7, none⟩ = some (.string x.pt) ∧ wq.cell? ⟨w.heap.size, 8, none⟩ = some (.int .i64 x.pi) ∧ wq.cell? ⟨q, 3, none⟩ = some (.pointer (some ⟨t, 0, none⟩)))
          (first | exact ⟨x1, x7, x8, xq⟩ | exact HK9.out _ (by assumption))
          (first | ((with_reducible refine c2.mono ?_); rintro e w4 ⟨rfl, ht1⟩))
        all_goals
          have HB4 := Lib.hid ((Below.refl w3.heap.size w3).drew.trans ht1)
          clear ht1 c2
          by_cases q1 : a1 = a2
          · subst q1
            by_cases q2 : i1 = i2
            · subst q2
              go_wp2_with fail
              go_ret
              exact HFIN.out _ _ (fun _ => by simp) (HH3.out.later HB4.out) (HK3.out.trans (KB.of_below HB4.out))
            · have q2' : (i1 == i2) = false := beq_eq_false_iff_ne.2 q2
              have HN := Lib.hid q2
              clear q2
              go_wp2_with fail
              go_ret
              exact HFIN.out _ _ (fun hq => absurd (congrArg Prod.snd (HQ.out hq)) HN.out) (HH3.out.later HB4.out) (HK3.out.trans (KB.of_below HB4.out))
          · have q1' : (a1 == a2) = false := beq_eq_false_iff_ne.2 q1
            have HN := Lib.hid q1
            clear q1
            go_wp2_with fail
            go_ret
            exact HFIN.out _ _ (fun hq => absurd (congrArg Prod.fst (HQ.out hq)) HN.out) (HH3.out.later HB4.out) (HK3.out.trans (KB.of_below HB4.out))
  · go_upto_region 3 with fail
    go_cut [43] from 29 to 43 (fun v wx => v = .bool false ∧ w2 = wx)
    case first =>
      go_wp2_with fail
      all_goals
        go_meet
        exact ⟨rfl, rfl⟩
    case rest =>
      obtain ⟨rfl, rfl⟩ := hcut
      go_upto_if 43 with fail
      go_cut [7] from 44 to 49 (fun v wx => (∃ z : Int, v = .int .i64 z) ∧ w2 = wx)
      case first =>
        go_wp2_with fail
        go_meet
        exact ⟨⟨_, rfl⟩, rfl⟩
      case rest =>
        obtain ⟨⟨z, rfl⟩, rfl⟩ := hcut
        have HFIN : Hid (∀ (b : Bool) (w' : World), (stepQ x z st sk n nk ss rb O OK → b = true) → PA W p q t k ss rb st sk n nk O OK w' → KB w w' → StP W w p q t k ss rb x st sk n nk O OK (.returned (.bool b)) w') := Lib.hid (fun b w' hq hp hkb => ⟨b, true, z, n, nk, rfl, hq, .inl rfl, by
          have hs1 : stepSt x z st n ss rb = st := by unfold stepSt; simp [HD.out]
          have hs2 : stepSk x z sk nk ss rb = sk := by unfold stepSk; simp [HD.out]
          have ho : ∀ L, stepOO x true L = L := fun L => by unfold stepOO; simp [HD.out]
          rw [hs1, hs2, ho, ho]
          exact hp.bump (by omega), hkb⟩)
        have c1 := pa_get H2.out x.g x.pt x.pi (HO.out.ky x.g (by have := HO.out.g; unfold maxLen; omega))
        go_wp2_with fail
        with_reducible refine c1.mono ?_
        rintro en w3 ⟨rfl, hb⟩
        have HB3 := Lib.hid (HB2.out.later hb)
        have HK3 := Lib.hid (HK2.out.trans (KB.of_below hb))
        have HH3 := Lib.hid (H2.out.later hb)
        clear c1 hb HB2 HK2 H2
        clear x0 x1 x2 x3 x4 x5 x6 x7 x8 x9 x10 xl
        obtain ⟨x0, x1, x2, x3, x4, x5, x6, x7, x8, x9, x10, xl⟩ := occ11 HB3.out
        have xq := HH3.out.tab
        have c2 := ka_get (HH3.out.later (Below.refl _ _).drew) x.g x.pt x.pi (HO.out.ky x.g (by have := HO.out.g; unfold maxLen; omega))
        have HQ : Hid (stepQ x z st sk n nk ss rb O OK → Of.geR O ⟨x.g, x.pt, x.pi⟩ = Of.geR OK ⟨x.g, x.pt, x.pi⟩) := Lib.hid (fun hq => by
          unfold stepQ at hq
          simpa [HD.out] using hq)
        generalize Of.geR O ⟨x.g, x.pt, x.pi⟩ = r1 at *
        generalize Of.geR OK ⟨x.g, x.pt, x.pi⟩ = r2 at *
        obtain ⟨a1, i1⟩ := r1
        obtain ⟨a2, i2⟩ := r2
        dsimp only at c2 ⊢
        have HK9 : Hid (∀ w', Below w3.drew.heap.size w3.drew w' → w'.cell? ⟨w.heap.size, 1, none⟩ = some (.string x.g) ∧ w'.cell? ⟨w.heap.size, 7, none⟩ = some (.string x.pt) ∧ w'.cell? ⟨w.heap.size, 8, none⟩ = some (.int .i64 x.pi) ∧ w'.cell? ⟨q, 3, none⟩ = some (.pointer (some ⟨t, 0, none⟩))) := Lib.hid (fun w' hb => by
          have hx := HB3.out.drew.later hb
          exact ⟨(hx.cell 1).trans rfl, (hx.cell 7).trans rfl, (hx.cell 8).trans rfl, ((HH3.out.later (Below.refl _ _).drew).later hb).tab⟩)
        go_wp2_with fail
        go_region_held3 (fun wq => wq.cell? ⟨w.heap.size, 1, none⟩ = some (.string x.g) ∧ wq.cell? ⟨w.heap.size, 7, none⟩ = some (.string x.pt) ∧ wq.cell? ⟨w.heap.size, 8, none⟩ = some (.int .i64 x.pi) ∧ wq.cell? ⟨q, 3, none⟩ = some (.pointer (some ⟨t, 0, none⟩)))
          (first | exact ⟨x1, x7, x8, xq⟩ | exact HK9.out _ (by assumption))
          (first | ((with_reducible refine c2.mono ?_); rintro e w4 ⟨rfl, ht1⟩))
        all_goals
          have HB4 := Lib.hid ((Below.refl w3.heap.size w3).drew.trans ht1)
          clear ht1 c2
          by_cases q1 : a1 = a2
          · subst q1
            by_cases q2 : i1 = i2
            · subst q2
              go_wp2_with fail
              go_ret
              exact HFIN.out _ _ (fun _ => by simp) (HH3.out.later HB4.out) (HK3.out.trans (KB.of_below HB4.out))
            · have q2' : (i1 == i2) = false := beq_eq_false_iff_ne.2 q2
              have HN := Lib.hid q2
              clear q2
              go_wp2_with fail
              go_ret
              exact HFIN.out _ _ (fun hq => absurd (congrArg Prod.snd (HQ.out hq)) HN.out) (HH3.out.later HB4.out) (HK3.out.trans (KB.of_below HB4.out))
          · have q1' : (a1 == a2) = false := beq_eq_false_iff_ne.2 q1
            have HN := Lib.hid q1
            clear q1
            go_wp2_with fail
            go_ret
            exact HFIN.out _ _ (fun hq => absurd (congrArg Prod.fst (HQ.out hq)) HN.out) (HH3.out.later HB4.out) (HK3.out.trans (KB.of_below HB4.out))
set_option maxHeartbeats 16000000 in
set_option maxRecDepth 100000 in
theorem step6_c (h : PA W p q t k ss rb st sk n nk O OK w) (hk : 0 ≤ k ∧ k ≤ 900000) (x : OC) (hx : OCk W x) (hd : x.do_ = 6) :
    Calls Tryz.prog 10 #[.pointer (some ⟨p, 0, none⟩), .pointer (some ⟨q, 0, none⟩), .agg (ocL x).toArray] w (StP W w p q t k ss rb x st sk n nk O OK) := by
  have hA : Below w.heap.size w (w.alloc (.cells (ocL x).toArray 36)) := (Below.refl _ _).alloc (Nat.le_refl _) _
  have hbx := Box.new w 36 (ocL x).toArray
  obtain ⟨x0, x1, x2, x3, x4, x5, x6, x7, x8, x9, x10, xl⟩ := occ11 hbx
  have hP := h.later hA
  have cf := ka_find hP x.g
  have HX := Lib.hid hbx
  have HP := Lib.hid hP
  have HA := Lib.hid hA
  have HK := Lib.hid hk
  have HO := Lib.hid hx
  clear hA hbx hP h hk hx
  rw [hd] at x0
  go_enter Tryz.func10, Tryz.ntmps10
  go_wp2_with fail
  with_reducible refine cf.mono ?_
  rintro en w2 ⟨hb, hcase⟩
  have H2 := Lib.hid (HP.out.later hb)
  have HB2 := Lib.hid (HX.out.later hb)
  have HK2 := Lib.hid ((KB.of_below HA.out).trans (KB.of_below hb))
  clear x0 x1 x2 x3 x4 x5 x6 x7 x8 x9 x10 xl cf hb HP HX HA
  obtain ⟨x0, x1, x2, x3, x4, x5, x6, x7, x8, x9, x10, xl⟩ := occ11 HB2.out
  rw [hd] at x0
  have HD := Lib.hid hd
  clear hd
  have hK2 := HK.out.2
  rcases hcase with ⟨gb, GG, rfl, cg, hgl, hG0, hG1⟩ | rfl
  · go_upto_region 3 with fail
    go_cut [43] from 29 to 43 (fun v wx => (∃ z : Bool, v = .bool z) ∧ w2 = wx)
    case first =>
      go_wp2_with fail
      all_goals
        go_meet
        exact ⟨⟨_, rfl⟩, rfl⟩
    case rest =>
      obtain ⟨⟨zb, rfl⟩, rfl⟩ := hcut
      go_upto_if 43 with fail
      go_cut [7] from 44 to 49 (fun v wx => (∃ z : Int, v = .int .i64 z) ∧ w2 = wx)
      case first =>
        cases zb
        all_goals
          go_wp2_with fail
          go_meet
          exact ⟨⟨_, rfl⟩, rfl⟩
      case rest =>
        obtain ⟨⟨z, rfl⟩, rfl⟩ := hcut
        have HFIN : Hid (∀ (b : Bool) (w' : World), (stepQ x z st sk n nk ss rb O OK → b = true) → PA W p q t k ss rb st sk n nk (Of.outT O x.pt) (Of.outT OK x.pt) w' → KB w w' → StP W w p q t k ss rb x st sk n nk O OK (.returned (.bool b)) w') := Lib.hid (fun b w' hq hp hkb => ⟨b, true, z, n, nk, rfl, hq, .inl rfl, by
          have hs1 : stepSt x z st n ss rb = st := by unfold stepSt; simp [HD.out]
          have hs2 : stepSk x z sk nk ss rb = sk := by unfold stepSk; simp [HD.out]
          have ho : ∀ L, stepOO x true L = Of.outT L x.pt := fun L => by unfold stepOO; simp [HD.out]
          rw [hs1, hs2, ho, ho]
          exact hp.bump (by omega), hkb⟩)
        have HT := Lib.hid (⟨H2.out.later (Below.refl _ _).drew, HB2.out.drew, HK2.out.trans (KB.of_below (Below.refl _ _).drew)⟩ : PO W w p q t k ss rb st sk n nk O OK w.heap.size x w2.drew)
        have c1 : Calls Tryz.prog 20 #[.pointer (some ⟨p, 0, none⟩), .string x.pt] w2.drew (fun en w' => en = .returned (.int .i64 ((O.length : Int) - ((Of.outT O x.pt).length : Int))) ∧ PO W w p q t k ss rb st sk n nk (Of.outT O x.pt) OK w.heap.size x w') := (pa_drop HT.out.pa x.pt).mono (by
          rintro en w3 ⟨rfl, H3, hkb⟩
          exact ⟨rfl, H3, hkb.op HT.out.bx, HT.out.kb.trans hkb⟩)
        have C2 : Hid (∀ w', PO W w p q t k ss rb st sk n nk (Of.outT O x.pt) OK w.heap.size x w' → Calls Tryz.prog 34 #[.pointer (some ⟨t, 0, none⟩), .string x.pt] w' (fun en w'' => en = .returned (.int .i64 ((OK.length : Int) - ((Of.outT OK x.pt).length : Int))) ∧ PO W w p q t k ss rb st sk n nk (Of.outT O x.pt) (Of.outT OK x.pt) w.heap.size x w'')) := Lib.hid (fun w' hw => (ka_drop hw.pa x.pt).mono (by
          rintro en w3 ⟨rfl, H3, hkb⟩
          exact ⟨rfl, H3, hkb.op hw.bx, hw.kb.trans hkb⟩))
        have HQ : Hid (stepQ x z st sk n nk ss rb O OK → ((O.length : Int) - ((Of.outT O x.pt).length : Int)) = ((OK.length : Int) - ((Of.outT OK x.pt).length : Int))) := Lib.hid (fun hq => by
          unfold stepQ at hq
          simp only [HD.out] at hq
          have h1 : O.length = OK.length := hq.1
          have h2 : (Of.outT O x.pt).length = (Of.outT OK x.pt).length := hq.2
          rw [h1, h2])
        generalize ((O.length : Int) - ((Of.outT O x.pt).length : Int)) = r1 at *
        generalize ((OK.length : Int) - ((Of.outT OK x.pt).length : Int)) = r2 at *
        have xq := HT.out.pa.tab
        clear cg hgl HB2 HK2 H2
        go_wp2_with fail
        go_region_held3 (fun wq => wq.cell? ⟨w.heap.size, 7, none⟩ = some (.string x.pt) ∧ wq.cell? ⟨q, 3, none⟩ = some (.pointer (some ⟨t, 0, none⟩)))
          (first | exact ⟨x7, xq⟩ | exact PO.cells6 (by assumption))
          (first | ((with_reducible refine c1.mono ?_); rintro e w3 ⟨rfl, ht1⟩) | ((with_reducible refine (C2.out _ (by assumption)).mono ?_); rintro e w4 ⟨rfl, ht2⟩))
        all_goals
          have HP9 := Lib.hid ht2
          clear ht2 ht1 c1 C2
          go_wp2_with fail
          go_ret
          exact HFIN.out _ _ (fun hq => by rw [HQ.out hq]; simp) HP9.out.pa HP9.out.kb
  · go_upto_region 3 with fail
    go_cut [43] from 29 to 43 (fun v wx => v = .bool false ∧ w2 = wx)
    case first =>
      go_wp2_with fail
      all_goals
        go_meet
        exact ⟨rfl, rfl⟩
    case rest =>
      obtain ⟨rfl, rfl⟩ := hcut
      go_upto_if 43 with fail
      go_cut [7] from 44 to 49 (fun v wx => (∃ z : Int, v = .int .i64 z) ∧ w2 = wx)
      case first =>
        go_wp2_with fail
        go_meet
        exact ⟨⟨_, rfl⟩, rfl⟩
      case rest =>
        obtain ⟨⟨z, rfl⟩, rfl⟩ := hcut
        have HFIN : Hid (∀ (b : Bool) (w' : World), (stepQ x z st sk n nk ss rb O OK → b = true) → PA W p q t k ss rb st sk n nk (Of.outT O x.pt) (Of.outT OK x.pt) w' → KB w w' → StP W w p q t k ss rb x st sk n nk O OK (.returned (.bool b)) w') := Lib.hid (fun b w' hq hp hkb => ⟨b, true, z, n, nk, rfl, hq, .inl rfl, by
          have hs1 : stepSt x z st n ss rb = st := by unfold stepSt; simp [HD.out]
          have hs2 : stepSk x z sk nk ss rb = sk := by unfold stepSk; simp [HD.out]
          have ho : ∀ L, stepOO x true L = Of.outT L x.pt := fun L => by unfold stepOO; simp [HD.out]
          rw [hs1, hs2, ho, ho]
          exact hp.bump (by omega), hkb⟩)
        have HT := Lib.hid (⟨H2.out.later (Below.refl _ _).drew, HB2.out.drew, HK2.out.trans (KB.of_below (Below.refl _ _).drew)⟩ : PO W w p q t k ss rb st sk n nk O OK w.heap.size x w2.drew)
        have c1 : Calls Tryz.prog 20 #[.pointer (some ⟨p, 0, none⟩), .string x.pt] w2.drew (fun en w' => en = .returned (.int .i64 ((O.length : Int) - ((Of.outT O x.pt).length : Int))) ∧ PO W w p q t k ss rb st sk n nk (Of.outT O x.pt) OK w.heap.size x w') := (pa_drop HT.out.pa x.pt).mono (by
          rintro en w3 ⟨rfl, H3, hkb⟩
          exact ⟨rfl, H3, hkb.op HT.out.bx, HT.out.kb.trans hkb⟩)
        have C2 : Hid (∀ w', PO W w p q t k ss rb st sk n nk (Of.outT O x.pt) OK w.heap.size x w' → Calls Tryz.prog 34 #[.pointer (some ⟨t, 0, none⟩), .string x.pt] w' (fun en w'' => en = .returned (.int .i64 ((OK.length : Int) - ((Of.outT OK x.pt).length : Int))) ∧ PO W w p q t k ss rb st sk n nk (Of.outT O x.pt) (Of.outT OK x.pt) w.heap.size x w'')) := Lib.hid (fun w' hw => (ka_drop hw.pa x.pt).mono (by
          rintro en w3 ⟨rfl, H3, hkb⟩
          exact ⟨rfl, H3, hkb.op hw.bx, hw.kb.trans hkb⟩))
        have HQ : Hid (stepQ x z st sk n nk ss rb O OK → ((O.length : Int) - ((Of.outT O x.pt).length : Int)) = ((OK.length : Int) - ((Of.outT OK x.pt).length : Int))) := Lib.hid (fun hq => by
          unfold stepQ at hq
          simp only [HD.out] at hq
          have h1 : O.length = OK.length := hq.1
          have h2 : (Of.outT O x.pt).length = (Of.outT OK x.pt).length := hq.2
          rw [h1, h2])
        generalize ((O.length : Int) - ((Of.outT O x.pt).length : Int)) = r1 at *
        generalize ((OK.length : Int) - ((Of.outT OK x.pt).length : Int)) = r2 at *
        have xq := HT.out.pa.tab
        clear HB2 HK2 H2
        go_wp2_with fail
        go_region_held3 (fun wq => wq.cell? ⟨w.heap.size, 7, none⟩ = some (.string x.pt) ∧ wq.cell? ⟨q, 3, none⟩ = some (.pointer (some ⟨t, 0, none⟩)))
          (first | exact ⟨x7, xq⟩ | exact PO.cells6 (by assumption))
          (first | ((with_reducible refine c1.mono ?_); rintro e w3 ⟨rfl, ht1⟩) | ((with_reducible refine (C2.out _ (by assumption)).mono ?_); rintro e w4 ⟨rfl, ht2⟩))
        all_goals
          have HP9 := Lib.hid ht2
          clear ht2 ht1 c1 C2
          go_wp2_with fail
          go_ret
          exact HFIN.out _ _ (fun hq => by rw [HQ.out hq]; simp) HP9.out.pa HP9.out.kb
set_option maxHeartbeats 16000000 in
set_option maxRecDepth 100000 in
theorem step7_c (h : PA W p q t k ss rb st sk n nk O OK w) (hk : 0 ≤ k ∧ k ≤ 900000) (x : OC) (hx : OCk W x) (hd : x.do_ ≠ 0 ∧ x.do_ ≠ 1 ∧ x.do_ ≠ 2 ∧ x.do_ ≠ 3 ∧ x.do_ ≠ 4 ∧ x.do_ ≠ 5 ∧ x.do_ ≠ 6) :
    Calls Tryz.prog 10 #[.pointer (some ⟨p, 0, none⟩), .pointer (some ⟨q, 0, none⟩), .agg (ocL x).toArray] w (StP W w p q t k ss rb x st sk n nk O OK) := by
  have hA : Below w.heap.size w (w.alloc (.cells (ocL x).toArray 36)) := (Below.refl _ _).alloc (Nat.le_refl _) _
  have hbx := Box.new w 36 (ocL x).toArray
  obtain ⟨x0, x1, x2, x3, x4, x5, x6, x7, x8, x9, x10, xl⟩ := occ11 hbx
  have hP := h.later hA
  have cf := ka_find hP x.g
  have HX := Lib.hid hbx
  have HP := Lib.hid hP
  have HA := Lib.hid hA
  have HK := Lib.hid hk
  have HO := Lib.hid hx
  clear hA hbx hP h hk hx
  have hd0 : (x.do_ == 0) = false := beq_eq_false_iff_ne.2 hd.1
  have hd1 : (x.do_ == 1) = false := beq_eq_false_iff_ne.2 hd.2.1
  have hd2 : (x.do_ == 2) = false := beq_eq_false_iff_ne.2 hd.2.2.1
  have hd3 : (x.do_ == 3) = false := beq_eq_false_iff_ne.2 hd.2.2.2.1
  have hd4 : (x.do_ == 4) = false := beq_eq_false_iff_ne.2 hd.2.2.2.2.1
  have hd5 : (x.do_ == 5) = false := beq_eq_false_iff_ne.2 hd.2.2.2.2.2.1
  have hd6 : (x.do_ == 6) = false := beq_eq_false_iff_ne.2 hd.2.2.2.2.2.2
  go_enter Tryz.func10, Tryz.ntmps10
  go_wp2_with fail
  with_reducible refine cf.mono ?_
  rintro en w2 ⟨hb, hcase⟩
  have H2 := Lib.hid (HP.out.later hb)
  have HB2 := Lib.hid (HX.out.later hb)
  have HK2 := Lib.hid ((KB.of_below HA.out).trans (KB.of_below hb))
  clear x0 x1 x2 x3 x4 x5 x6 x7 x8 x9 x10 xl cf hb HP HX HA
  obtain ⟨x0, x1, x2, x3, x4, x5, x6, x7, x8, x9, x10, xl⟩ := occ11 HB2.out
  have HD := Lib.hid hd
  clear hd
  have hK2 := HK.out.2
  rcases hcase with ⟨gb, GG, rfl, cg, hgl, hG0, hG1⟩ | rfl
  · go_upto_region 3 with fail
    go_cut [43] from 29 to 43 (fun v wx => (∃ z : Bool, v = .bool z) ∧ w2 = wx)
    case first =>
      go_wp2_with fail
      all_goals
        go_meet
        exact ⟨⟨_, rfl⟩, rfl⟩
    case rest =>
      obtain ⟨⟨zb, rfl⟩, rfl⟩ := hcut
      go_upto_if 43 with fail
      go_cut [7] from 44 to 49 (fun v wx => (∃ z : Int, v = .int .i64 z) ∧ w2 = wx)
      case first =>
        cases zb
        all_goals
          go_wp2_with fail
          go_meet
          exact ⟨⟨_, rfl⟩, rfl⟩
      case rest =>
        obtain ⟨⟨z, rfl⟩, rfl⟩ := hcut
        have HFIN : Hid (∀ (b : Bool) (w' : World), (stepQ x z st sk n nk ss rb O OK → b = true) → PA W p q t (k + 40 + 40) ss rb (fun s => (st s).map (tickD x.now)) (fun s => (sk s).map (ktickD x.now)) n nk O OK w' → KB w w' → StP W w p q t k ss rb x st sk n nk O OK (.returned (.bool b)) w') := Lib.hid (fun b w' hq hp hkb => ⟨b, true, z, n, nk, rfl, hq, .inl rfl, by
          have hs1 : stepSt x z st n ss rb = fun s => (st s).map (tickD x.now) := by unfold stepSt; obtain ⟨h0, h1, h2, h3, h4, h5, h6⟩ := HD.out; simp [h0, h1, h2, h3, h4, h5, h6]
          have hs2 : stepSk x z sk nk ss rb = fun s => (sk s).map (ktickD x.now) := by unfold stepSk; obtain ⟨h0, h1, h2, h3, h4, h5, h6⟩ := HD.out; simp [h0, h1, h2, h3, h4, h5, h6]
          have ho : ∀ L, stepOO x true L = L := fun L => by unfold stepOO; obtain ⟨h0, h1, h2, h3, h4, h5, h6⟩ := HD.out; simp [h4, h6]
          rw [hs1, hs2, ho, ho]
          exact hp.bump (by omega), hkb⟩)
        have c1 := pa_tick H2.out (by have := HK.out.2; omega) x.now
        go_wp2_with fail
        with_reducible refine c1.mono ?_
        rintro en w3 ⟨rfl, H3, hkb⟩
        have HB3 := Lib.hid (hkb.op HB2.out)
        have HK3 := Lib.hid (HK2.out.trans hkb)
        have c2 := ka_tick H3 (by have := HK.out.2; omega) x.now
        clear c1 H3 hkb cg hgl HB2 HK2 H2
        clear x0 x1 x2 x3 x4 x5 x6 x7 x8 x9 x10 xl
        obtain ⟨x0, x1, x2, x3, x4, x5, x6, x7, x8, x9, x10, xl⟩ := occ11 HB3.out
        go_wp2_with fail
        with_reducible refine c2.mono ?_
        rintro en w4 ⟨rfl, H4, hkb⟩
        have HH4 := Lib.hid H4
        have HK4 := Lib.hid (HK3.out.trans hkb)
        clear c2 H4 hkb
        go_wp2_with fail
        go_ret
        exact HFIN.out _ _ (fun _ => rfl) HH4.out HK4.out
  · go_upto_region 3 with fail
    go_cut [43] from 29 to 43 (fun v wx => v = .bool false ∧ w2 = wx)
    case first =>
      go_wp2_with fail
      all_goals
        go_meet
        exact ⟨rfl, rfl⟩
    case rest =>
      obtain ⟨rfl, rfl⟩ := hcut
      go_upto_if 43 with fail
      go_cut [7] from 44 to 49 (fun v wx => (∃ z : Int, v = .int .i64 z) ∧ w2 = wx)
      case first =>
        go_wp2_with fail
        go_meet
        exact ⟨⟨_, rfl⟩, rfl⟩
      case rest =>
        obtain ⟨⟨z, rfl⟩, rfl⟩ := hcut
        have HFIN : Hid (∀ (b : Bool) (w' : World), (stepQ x z st sk n nk ss rb O OK → b = true) → PA W p q t (k + 40 + 40) ss rb (fun s => (st s).map (tickD x.now)) (fun s => (sk s).map (ktickD x.now)) n nk O OK w' → KB w w' → StP W w p q t k ss rb x st sk n nk O OK (.returned (.bool b)) w') := Lib.hid (fun b w' hq hp hkb => ⟨b, true, z, n, nk, rfl, hq, .inl rfl, by
          have hs1 : stepSt x z st n ss rb = fun s => (st s).map (tickD x.now) := by unfold stepSt; obtain ⟨h0, h1, h2, h3, h4, h5, h6⟩ := HD.out; simp [h0, h1, h2, h3, h4, h5, h6]
          have hs2 : stepSk x z sk nk ss rb = fun s => (sk s).map (ktickD x.now) := by unfold stepSk; obtain ⟨h0, h1, h2, h3, h4, h5, h6⟩ := HD.out; simp [h0, h1, h2, h3, h4, h5, h6]
          have ho : ∀ L, stepOO x true L = L := fun L => by unfold stepOO; obtain ⟨h0, h1, h2, h3, h4, h5, h6⟩ := HD.out; simp [h4, h6]
          rw [hs1, hs2, ho, ho]
          exact hp.bump (by omega), hkb⟩)
        have c1 := pa_tick H2.out (by have := HK.out.2; omega) x.now
        go_wp2_with fail
        with_reducible refine c1.mono ?_
        rintro en w3 ⟨rfl, H3, hkb⟩
        have HB3 := Lib.hid (hkb.op HB2.out)
        have HK3 := Lib.hid (HK2.out.trans hkb)
        have c2 := ka_tick H3 (by have := HK.out.2; omega) x.now
        clear c1 H3 hkb HB2 HK2 H2
        clear x0 x1 x2 x3 x4 x5 x6 x7 x8 x9 x10 xl
        obtain ⟨x0, x1, x2, x3, x4, x5, x6, x7, x8, x9, x10, xl⟩ := occ11 HB3.out
        go_wp2_with fail
        with_reducible refine c2.mono ?_
        rintro en w4 ⟨rfl, H4, hkb⟩
        have HH4 := Lib.hid H4
        have HK4 := Lib.hid (HK3.out.trans hkb)
        clear c2 H4 hkb
        go_wp2_with fail
        go_ret
        exact HFIN.out _ _ (fun _ => rfl) HH4.out HK4.out
end
end Go.Proofs.YtlokhhjhckiloaaGreat
