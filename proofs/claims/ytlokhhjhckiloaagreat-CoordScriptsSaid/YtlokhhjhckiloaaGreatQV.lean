/- coord: merged texts. What each proves is told at its head. -/
import Derived.Test.YtlokhhjhckiloaaGreatQ5
/- coord: a step of both coordinators, by a contract. No condition but that calls are not too many. -/
namespace Go.Proofs.YtlokhhjhckiloaaGreat
open Go.RowKit Go.Maps Go.ChangeMaps Go.WideMaps
set_option linter.unusedVariables false
section
variable {W w w' : World} {p q t : Nat} {k ss rb : Int} {st sk : List UInt8 → Option GD} {n nk : Nat} {O OK : List Of.KE}
set_option maxHeartbeats 16000000 in
set_option maxRecDepth 100000 in
theorem step4_c (h : PA W p q t k ss rb st sk n nk O OK w) (hk : 0 ≤ k ∧ k ≤ 900000) (x : OC) (hx : OCk W x) (hd : x.do_ = 4) :
    Calls Tryz.prog 10 #[.pointer (some ⟨p, 0, none⟩), .pointer (some ⟨q, 0, none⟩), .agg (ocL x).toArray] w (StP W w p q t k ss rb x st sk n nk O OK) := by
  have hA : Below w.heap.size w (w.alloc (.cells (ocL x).toArray 36)) := (Below.refl _ _).alloc (Nat.le_refl _) _
  have hbx := Box.new w 36 (ocL x).toArray
  obtain ⟨x0, x1, x2, x3, x4, x5, x6, x7, x8, x9, x10, xl⟩ := occ11 hbx
  have hP := h.later hA
  have cf := ka_find hP x.g
  have HX := Lib.hid hbx
  have HP := Lib.hid hP
  have HA := Lib.hid hA
  have HK := Lib.hid hk
  have HO := Lib.hid hx
  clear hA hbx hP h hk hx
  rw [hd] at x0
  go_enter Tryz.func10, Tryz.ntmps10
  go_wp2_with fail
  with_reducible refine cf.mono ?_
  rintro en w2 ⟨hb, hcase⟩
  have H2 := Lib.hid (HP.out.later hb)
  have HB2 := Lib.hid (HX.out.later hb)
  have HK2 := Lib.hid ((KB.of_below HA.out).trans (KB.of_below hb))
  clear x0 x1 x2 x3 x4 x5 x6 x7 x8 x9 x10 xl cf hb HP HX HA
  obtain ⟨x0, x1, x2, x3, x4, x5, x6, x7, x8, x9, x10, xl⟩ := occ11 HB2.out
  rw [hd] at x0
  have HD := Lib.hid hd
  clear hd
  have hK2 := HK.out.2
  rcases hcase with ⟨gb, GG, rfl, cg, hgl, hG0, hG1⟩ | rfl
  · go_upto_region 3 with fail
    go_cut [43] from 29 to 43 (fun v wx => (∃ z : Bool, v = .bool z) ∧ w2 = wx)
    case first =>
      go_wp2_with fail
      all_goals
        go_meet
        exact ⟨⟨_, rfl⟩, rfl⟩
    case rest =>
      obtain ⟨⟨zb, rfl⟩, rfl⟩ := hcut
      go_upto_if 43 with fail
      go_cut [7] from 44 to 49 (fun v wx => (∃ z : Int, v = .int .i64 z) ∧ w2 = wx)
      case first =>
        cases zb
        all_goals
          go_wp2_with fail
          go_meet
          exact ⟨⟨_, rfl⟩, rfl⟩
      case rest =>
        obtain ⟨⟨z, rfl⟩, rfl⟩ := hcut
        by_cases hm : mayCE (st x.g.data.toList) x.m z = mayCE (sk x.g.data.toList) x.m z
        · have HFIN : Hid (∀ (b : Bool) (w' : World), (stepQ x z st sk n nk ss rb O OK → b = true) → PA W p q t k ss rb st sk n nk (Of.coS 1000 O ⟨x.g, x.pt, x.pi⟩ x.at_) (Of.coS 1000 OK ⟨x.g, x.pt, x.pi⟩ x.at_) w' → KB w w' → StP W w p q t k ss rb x st sk n nk O OK (.returned (.bool b)) w') := Lib.hid (fun b w' hq hp hkb => ⟨b, true, z, n, nk, rfl, hq, .inl rfl, by
            have hs1 : stepSt x z st n ss rb = st := by unfold stepSt; simp [HD.out]
            have hs2 : stepSk x z sk nk ss rb = sk := by unfold stepSk; simp [HD.out]
            have ho : ∀ L, stepOO x true L = Of.coS 1000 L ⟨x.g, x.pt, x.pi⟩ x.at_ := fun L => by unfold stepOO; simp [HD.out]
            rw [hs1, hs2, ho, ho]
            exact hp.bump (by omega), hkb⟩)
          have HT := Lib.hid (⟨H2.out.later (Below.refl _ _).drew, HB2.out.drew, HK2.out.trans (KB.of_below (Below.refl _ _).drew)⟩ : PO W w p q t k ss rb st sk n nk O OK w.heap.size x w2.drew)
          have c1 : Calls Tryz.prog 18 #[.pointer (some ⟨p, 0, none⟩), .string x.g, .int .i64 x.m, .int .i64 z] w2.drew (fun en w' => en = .returned (.int .i64 (mayCE (st x.g.data.toList) x.m z)) ∧ PO W w p q t k ss rb st sk n nk O OK w.heap.size x w') := (pa_may HT.out.pa x.g HO.out.g x.m z).mono (by
            rintro en w3 ⟨rfl, H3, hkb⟩
            exact ⟨rfl, H3, hkb.op HT.out.bx, HT.out.kb.trans hkb⟩)
          have c2 : ∀ w', PO W w p q t k ss rb st sk n nk O OK w.heap.size x w' → Calls Tryz.prog 31 #[.pointer (some ⟨q, 0, none⟩), .string x.g, .int .i64 x.m, .int .i64 z] w' (fun en w'' => en = .returned (.int .i64 (mayCE (sk x.g.data.toList) x.m z)) ∧ PO W w p q t k ss rb st sk n nk O OK w.heap.size x w'') := fun w' hw => (ka_may hw.pa x.g x.m z).mono (by
            rintro en w3 ⟨rfl, H3, hkb⟩
            exact ⟨rfl, H3, hkb.op hw.bx, hw.kb.trans hkb⟩)
          have C3 : Hid (∀ w', PO W w p q t k ss rb st sk n nk O OK w.heap.size x w' → Calls Tryz.prog 19 #[.pointer (some ⟨p, 0, none⟩), .string x.g, .agg #[.string x.pt, .int .i64 x.pi], .int .i64 x.at_] w' (fun en w'' => en = .returned (.int .i64 (Of.coR 1000 O ⟨x.g, x.pt, x.pi⟩ x.at_)) ∧ PO W w p q t k ss rb st sk n nk (Of.coS 1000 O ⟨x.g, x.pt, x.pi⟩ x.at_) OK w.heap.size x w'')) := Lib.hid (fun w' hw => (pa_commit hw.pa x.g x.pt x.pi x.at_).mono (by
            rintro en w3 ⟨rfl, H3, hkb⟩
            exact ⟨rfl, H3, hkb.op hw.bx, hw.kb.trans hkb⟩))
          have C4 : Hid (∀ w', PO W w p q t k ss rb st sk n nk (Of.coS 1000 O ⟨x.g, x.pt, x.pi⟩ x.at_) OK w.heap.size x w' → Calls Tryz.prog 32 #[.pointer (some ⟨t, 0, none⟩), .string x.g, .agg #[.string x.pt, .int .i64 x.pi], .int .i64 x.at_] w' (fun en w'' => en = .returned (.int .i64 (Of.coR 1000 OK ⟨x.g, x.pt, x.pi⟩ x.at_)) ∧ PO W w p q t k ss rb st sk n nk (Of.coS 1000 O ⟨x.g, x.pt, x.pi⟩ x.at_) (Of.coS 1000 OK ⟨x.g, x.pt, x.pi⟩ x.at_) w.heap.size x w'')) := Lib.hid (fun w' hw => (ka_commit hw.pa x.g x.pt x.pi x.at_ HO.out.g HO.out.pt).mono (by
            rintro en w3 ⟨rfl, H3, hkb⟩
            exact ⟨rfl, H3, hkb.op hw.bx, hw.kb.trans hkb⟩))
          rw [← hm] at c2
          generalize mayCE (st x.g.data.toList) x.m z = mm at *
          have hmm : (mm == mm) = true := by simp
          have HQ : Hid (stepQ x z st sk n nk ss rb O OK → Of.coR 1000 O ⟨x.g, x.pt, x.pi⟩ x.at_ = Of.coR 1000 OK ⟨x.g, x.pt, x.pi⟩ x.at_) := Lib.hid (fun hq => by
            unfold stepQ at hq
            simp only [HD.out] at hq
            exact hq.2)
          generalize Of.coR 1000 O ⟨x.g, x.pt, x.pi⟩ x.at_ = r1 at *
          generalize Of.coR 1000 OK ⟨x.g, x.pt, x.pi⟩ x.at_ = r2 at *
          have C2 := Lib.hid c2
          clear c2 hm cg hgl HB2 HK2 H2
          have xq := HT.out.pa.tab
          go_wp2_with fail
          go_region_held3 (fun wq => wq.cell? ⟨w.heap.size, 1, none⟩ = some (.string x.g) ∧ wq.cell? ⟨w.heap.size, 2, none⟩ = some (.int .i64 x.m) ∧ wq.cell? ⟨w.heap.size, 7, none⟩ = some (.string x.pt) ∧ wq.cell? ⟨w.heap.size, 8, none⟩ = some (.int .i64 x.pi) ∧ wq.cell? ⟨w.heap.size, 9, none⟩ = some (.int .i64 x.at_) ∧ wq.cell? ⟨q, 3, none⟩ = some (.pointer (some ⟨t, 0, none⟩)))
            (first | exact ⟨x1, x2, x7, x8, x9, xq⟩ | exact PO.cells4 (by assumption))
            (first | ((with_reducible refine c1.mono ?_); rintro e w3 ⟨rfl, ht1⟩) | ((with_reducible refine (C2.out _ (by assumption)).mono ?_); rintro e w4 ⟨rfl, ht2⟩) | ((with_reducible refine (C3.out _ (by assumption)).mono ?_); rintro e w5 ⟨rfl, ht3⟩) | ((with_reducible refine (C4.out _ (by assumption)).mono ?_); rintro e w6 ⟨rfl, ht4⟩))
          all_goals
            have HP9 := Lib.hid ht4
            clear ht4 ht3 ht2 ht1 c1 C2 C3 C4
            go_wp2_with fail
            go_ret
            exact HFIN.out _ _ (fun hq => by rw [HQ.out hq]; simp) HP9.out.pa HP9.out.kb
        · have HQ : Hid (stepQ x z st sk n nk ss rb O OK → mayCE (st x.g.data.toList) x.m z = mayCE (sk x.g.data.toList) x.m z) := Lib.hid (fun hq => by
            unfold stepQ at hq
            simp only [HD.out] at hq
            exact hq.1)
          have HFIN : Hid (mayCE (st x.g.data.toList) x.m z ≠ mayCE (sk x.g.data.toList) x.m z → ∀ (b : Bool) (w' : World), (stepQ x z st sk n nk ss rb O OK → b = true) → PA W p q t k ss rb st sk n nk O OK w' → KB w w' → StP W w p q t k ss rb x st sk n nk O OK (.returned (.bool b)) w') := Lib.hid (fun hne b w' hq hp hkb => ⟨b, false, z, n, nk, rfl, hq, .inr ⟨HD.out, hne⟩, by
            have hs1 : stepSt x z st n ss rb = st := by unfold stepSt; simp [HD.out]
            have hs2 : stepSk x z sk nk ss rb = sk := by unfold stepSk; simp [HD.out]
            have ho : ∀ L, stepOO x false L = L := fun L => by unfold stepOO; simp [HD.out]
            rw [hs1, hs2, ho, ho]
            exact hp.bump (by omega), hkb⟩)
          have HT := Lib.hid (⟨H2.out.later (Below.refl _ _).drew, HB2.out.drew, HK2.out.trans (KB.of_below (Below.refl _ _).drew)⟩ : PO W w p q t k ss rb st sk n nk O OK w.heap.size x w2.drew)
          have c1 : Calls Tryz.prog 18 #[.pointer (some ⟨p, 0, none⟩), .string x.g, .int .i64 x.m, .int .i64 z] w2.drew (fun en w' => en = .returned (.int .i64 (mayCE (st x.g.data.toList) x.m z)) ∧ PO W w p q t k ss rb st sk n nk O OK w.heap.size x w') := (pa_may HT.out.pa x.g HO.out.g x.m z).mono (by
            rintro en w3 ⟨rfl, H3, hkb⟩
            exact ⟨rfl, H3, hkb.op HT.out.bx, HT.out.kb.trans hkb⟩)
          have c2 : ∀ w', PO W w p q t k ss rb st sk n nk O OK w.heap.size x w' → Calls Tryz.prog 31 #[.pointer (some ⟨q, 0, none⟩), .string x.g, .int .i64 x.m, .int .i64 z] w' (fun en w'' => en = .returned (.int .i64 (mayCE (sk x.g.data.toList) x.m z)) ∧ PO W w p q t k ss rb st sk n nk O OK w.heap.size x w'') := fun w' hw => (ka_may hw.pa x.g x.m z).mono (by
            rintro en w3 ⟨rfl, H3, hkb⟩
            exact ⟨rfl, H3, hkb.op hw.bx, hw.kb.trans hkb⟩)
          have HM : Hid (mayCE (st x.g.data.toList) x.m z ≠ mayCE (sk x.g.data.toList) x.m z) := Lib.hid hm
          have hmm : (mayCE (st x.g.data.toList) x.m z == mayCE (sk x.g.data.toList) x.m z) = false := beq_eq_false_iff_ne.2 hm
          generalize hg1 : mayCE (st x.g.data.toList) x.m z = m1 at c1 hmm
          generalize hg2 : mayCE (sk x.g.data.toList) x.m z = m2 at c2 hmm
          have C2 := Lib.hid c2
          clear c2 hm hg1 hg2 cg hgl HB2 HK2 H2
          have xq := HT.out.pa.tab
          go_wp2_with fail
          have hS0 : (fun wq => wq.cell? ⟨w.heap.size, 1, none⟩ = some (.string x.g) ∧ wq.cell? ⟨w.heap.size, 2, none⟩ = some (.int .i64 x.m) ∧ wq.cell? ⟨w.heap.size, 7, none⟩ = some (.string x.pt) ∧ wq.cell? ⟨w.heap.size, 8, none⟩ = some (.int .i64 x.pi) ∧ wq.cell? ⟨w.heap.size, 9, none⟩ = some (.int .i64 x.at_) ∧ wq.cell? ⟨q, 3, none⟩ = some (.pointer (some ⟨t, 0, none⟩))) w2.drew := ⟨x1, x2, x7, x8, x9, xq⟩
          refine wp_region_held_drew (S := (fun wq => wq.cell? ⟨w.heap.size, 1, none⟩ = some (.string x.g) ∧ wq.cell? ⟨w.heap.size, 2, none⟩ = some (.int .i64 x.m) ∧ wq.cell? ⟨w.heap.size, 7, none⟩ = some (.string x.pt) ∧ wq.cell? ⟨w.heap.size, 8, none⟩ = some (.int .i64 x.pi) ∧ wq.cell? ⟨w.heap.size, 9, none⟩ = some (.int .i64 x.at_) ∧ wq.cell? ⟨q, 3, none⟩ = some (.pointer (some ⟨t, 0, none⟩)))) (by kernel_rfl) hS0 (fun hHeld => ?_)
          refine takeW (i := 0) (v := ?v1) rfl (by kernel_rfl) (by kernel_rfl) (by kernel_rfl) (fun _ _ _ h => h) (by kernel_rfl) hHeld ?hy1 ?rest1
          case hy1 => (intro w hSw; (try dsimp only at hSw); go_simp; (try with_reducible rfl))
          try simp only [Act.put, List.setIfInBounds_toArray, List.set_cons_zero, List.set_cons_succ]
          refine takeW (i := 1) (v := ?v2) rfl (by kernel_rfl) (by kernel_rfl) (by kernel_rfl) (fun _ _ _ h => h) (by kernel_rfl) hHeld ?hy2 ?rest2
          case hy2 => (intro w hSw; (try dsimp only at hSw); go_simp; (try with_reducible rfl))
          try simp only [Act.put, List.setIfInBounds_toArray, List.set_cons_zero, List.set_cons_succ]
          refine takeW (i := 2) (v := ?v3) rfl (by kernel_rfl) (by kernel_rfl) (by kernel_rfl) (fun _ _ _ h => h) (by kernel_rfl) hHeld ?hy3 ?rest3
          case hy3 => (intro w hSw; (try dsimp only at hSw); go_simp; (try with_reducible rfl))
          try simp only [Act.put, List.setIfInBounds_toArray, List.set_cons_zero, List.set_cons_succ]
          refine takeW (i := 3) (v := ?v4) rfl (by kernel_rfl) (by kernel_rfl) (by kernel_rfl) (fun _ _ _ h => h) (by kernel_rfl) hHeld ?hy4 ?rest4
          case hy4 => (intro w hSw; (try dsimp only at hSw); go_simp; (try with_reducible rfl))
          try simp only [Act.put, List.setIfInBounds_toArray, List.set_cons_zero, List.set_cons_succ]
          refine takeW (i := 4) (v := ?v5) rfl (by kernel_rfl) (by kernel_rfl) (by kernel_rfl) (fun _ _ _ h => h) (by kernel_rfl) hHeld ?hy5 ?rest5
          case hy5 => (intro w hSw; (try dsimp only at hSw); go_simp; (try with_reducible rfl))
          try simp only [Act.put, List.setIfInBounds_toArray, List.set_cons_zero, List.set_cons_succ]
          refine takeW (i := 5) (v := ?v6) rfl (by kernel_rfl) (by kernel_rfl) (by kernel_rfl) (fun _ _ _ h => h) (by kernel_rfl) hHeld ?hy6 ?rest6
          case hy6 => (intro w hSw; (try dsimp only at hSw); go_simp; (try with_reducible rfl))
          try simp only [Act.put, List.setIfInBounds_toArray, List.set_cons_zero, List.set_cons_succ]
          refine takeW (i := 7) (v := ?v7) rfl (by kernel_rfl) (by kernel_rfl) (by kernel_rfl) (fun _ _ _ h => h) (by kernel_rfl) hHeld ?hy7 ?rest7
          case hy7 => (intro w hSw; (try dsimp only at hSw); go_simp; (try with_reducible rfl))
          try simp only [Act.put, List.setIfInBounds_toArray, List.set_cons_zero, List.set_cons_succ]
          refine takeW (i := 8) (v := ?v8) rfl (by kernel_rfl) (by kernel_rfl) (by kernel_rfl) (fun _ _ _ h => h) (by kernel_rfl) hHeld ?hy8 ?rest8
          case hy8 => (intro w hSw; (try dsimp only at hSw); go_simp; (try with_reducible rfl))
          try simp only [Act.put, List.setIfInBounds_toArray, List.set_cons_zero, List.set_cons_succ]
          refine takeW (i := 9) (v := ?v9) rfl (by kernel_rfl) (by kernel_rfl) (by kernel_rfl) (fun _ _ _ h => h) (by kernel_rfl) hHeld ?hy9 ?rest9
          case hy9 => (intro w hSw; (try dsimp only at hSw); go_simp; (try with_reducible rfl))
          try simp only [Act.put, List.setIfInBounds_toArray, List.set_cons_zero, List.set_cons_succ]
          refine takeW (i := 10) (v := ?v10) rfl (by kernel_rfl) (by kernel_rfl) (by kernel_rfl) (fun _ _ _ h => h) (by kernel_rfl) hHeld ?hy10 ?rest10
          case hy10 => (intro w hSw; (try dsimp only at hSw); go_simp; (try with_reducible rfl))
          try simp only [Act.put, List.setIfInBounds_toArray, List.set_cons_zero, List.set_cons_succ]
          refine takeW (i := 11) (v := ?v11) rfl (by kernel_rfl) (by kernel_rfl) (by kernel_rfl) (fun _ _ _ h => h) (by kernel_rfl) hHeld ?hy11 ?rest11
          case hy11 => (intro w hSw; (try dsimp only at hSw); go_simp; (try with_reducible rfl))
          try simp only [Act.put, List.setIfInBounds_toArray, List.set_cons_zero, List.set_cons_succ]
          refine takeW (i := 12) (v := ?v12) rfl (by kernel_rfl) (by kernel_rfl) (by kernel_rfl) (fun _ _ _ h => h) (by kernel_rfl) hHeld ?hy12 ?rest12
          case hy12 => (intro w hSw; (try dsimp only at hSw); go_simp; (try with_reducible rfl))
          try simp only [Act.put, List.setIfInBounds_toArray, List.set_cons_zero, List.set_cons_succ]
          refine wpAnyH_ready (rs := [6]) (by kernel_rfl) (by simp) ?_
          refine consL rfl (by kernel_rfl) (fun K hK => ?_) AllReadyH.nil
          go_simp
          with_reducible refine c1.mono ?_
          rintro en w3 ⟨rfl, ht1⟩
          refine hK.out _ _ (PO.cells4 ht1) (fun hHeld => ?_)
          clear hK K
          try simp only [Act.put, List.setIfInBounds_toArray, List.set_cons_zero, List.set_cons_succ]
          refine wpAnyH_ready (rs := [13]) (by kernel_rfl) (by simp) ?_
          refine consL rfl (by kernel_rfl) (fun K hK => ?_) AllReadyH.nil
          go_simp
          with_reducible refine (C2.out _ ht1).mono ?_
          rintro en w4 ⟨rfl, ht2⟩
          refine hK.out _ _ (PO.cells4 ht2) (fun hHeld => ?_)
          clear hK K
          try simp only [Act.put, List.setIfInBounds_toArray, List.set_cons_zero, List.set_cons_succ]
          refine takeW (i := 14) (v := .bool false) rfl (by kernel_rfl) (by kernel_rfl) (by kernel_rfl) (fun _ _ _ h => h) (by kernel_rfl) hHeld ?hy13 ?rest13
          case hy13 => (intro w hSw; (try dsimp only at hSw); go_simp; (try first | (rw [hmm]; done) | (simp only [hmm]; done) | (rw [hmm]; rfl)))
          try simp only [Act.put, List.setIfInBounds_toArray, List.set_cons_zero, List.set_cons_succ]
          refine takeW (i := 15) (v := ?v14) rfl (by kernel_rfl) (by kernel_rfl) (by kernel_rfl) (fun _ _ _ h => h) (by kernel_rfl) hHeld ?hy14 ?rest14
          case hy14 => (intro w hSw; (try dsimp only at hSw); go_simp; (try with_reducible rfl))
          try simp only [Act.put, List.setIfInBounds_toArray, List.set_cons_zero, List.set_cons_succ]
          refine takeU (i := 16) rfl (by kernel_rfl) (by kernel_rfl) (by kernel_rfl) (fun _ _ _ h => h) (by kernel_rfl) hHeld ?_
          try simp only [Act.put, List.setIfInBounds_toArray, List.set_cons_zero, List.set_cons_succ]
          refine takeU (i := 17) rfl (by kernel_rfl) (by kernel_rfl) (by kernel_rfl) (fun _ _ _ h => h) (by kernel_rfl) hHeld ?_
          try simp only [Act.put, List.setIfInBounds_toArray, List.set_cons_zero, List.set_cons_succ]
          refine takeU (i := 18) rfl (by kernel_rfl) (by kernel_rfl) (by kernel_rfl) (fun _ _ _ h => h) (by kernel_rfl) hHeld ?_
          try simp only [Act.put, List.setIfInBounds_toArray, List.set_cons_zero, List.set_cons_succ]
          refine takeU (i := 19) rfl (by kernel_rfl) (by kernel_rfl) (by kernel_rfl) (fun _ _ _ h => h) (by kernel_rfl) hHeld ?_
          try simp only [Act.put, List.setIfInBounds_toArray, List.set_cons_zero, List.set_cons_succ]
          refine takeU (i := 20) rfl (by kernel_rfl) (by kernel_rfl) (by kernel_rfl) (fun _ _ _ h => h) (by kernel_rfl) hHeld ?_
          try simp only [Act.put, List.setIfInBounds_toArray, List.set_cons_zero, List.set_cons_succ]
          refine takeU (i := 21) rfl (by kernel_rfl) (by kernel_rfl) (by kernel_rfl) (fun _ _ _ h => h) (by kernel_rfl) hHeld ?_
          try simp only [Act.put, List.setIfInBounds_toArray, List.set_cons_zero, List.set_cons_succ]
          refine takeU (i := 22) rfl (by kernel_rfl) (by kernel_rfl) (by kernel_rfl) (fun _ _ _ h => h) (by kernel_rfl) hHeld ?_
          try simp only [Act.put, List.setIfInBounds_toArray, List.set_cons_zero, List.set_cons_succ]
          refine takeU (i := 23) rfl (by kernel_rfl) (by kernel_rfl) (by kernel_rfl) (fun _ _ _ h => h) (by kernel_rfl) hHeld ?_
          try simp only [Act.put, List.setIfInBounds_toArray, List.set_cons_zero, List.set_cons_succ]
          refine takeU (i := 24) rfl (by kernel_rfl) (by kernel_rfl) (by kernel_rfl) (fun _ _ _ h => h) (by kernel_rfl) hHeld ?_
          try simp only [Act.put, List.setIfInBounds_toArray, List.set_cons_zero, List.set_cons_succ]
          refine takeU (i := 25) rfl (by kernel_rfl) (by kernel_rfl) (by kernel_rfl) (fun _ _ _ h => h) (by kernel_rfl) hHeld ?_
          try simp only [Act.put, List.setIfInBounds_toArray, List.set_cons_zero, List.set_cons_succ]
          refine takeU (i := 26) rfl (by kernel_rfl) (by kernel_rfl) (by kernel_rfl) (fun _ _ _ h => h) (by kernel_rfl) hHeld ?_
          try simp only [Act.put, List.setIfInBounds_toArray, List.set_cons_zero, List.set_cons_succ]
          refine takeU (i := 27) rfl (by kernel_rfl) (by kernel_rfl) (by kernel_rfl) (fun _ _ _ h => h) (by kernel_rfl) hHeld ?_
          try simp only [Act.put, List.setIfInBounds_toArray, List.set_cons_zero, List.set_cons_succ]
          refine takeU (i := 28) rfl (by kernel_rfl) (by kernel_rfl) (by kernel_rfl) (fun _ _ _ h => h) (by kernel_rfl) hHeld ?_
          try simp only [Act.put, List.setIfInBounds_toArray, List.set_cons_zero, List.set_cons_succ]
          refine takeU (i := 29) rfl (by kernel_rfl) (by kernel_rfl) (by kernel_rfl) (fun _ _ _ h => h) (by kernel_rfl) hHeld ?_
          try simp only [Act.put, List.setIfInBounds_toArray, List.set_cons_zero, List.set_cons_succ]
          refine takeU (i := 30) rfl (by kernel_rfl) (by kernel_rfl) (by kernel_rfl) (fun _ _ _ h => h) (by kernel_rfl) hHeld ?_
          try simp only [Act.put, List.setIfInBounds_toArray, List.set_cons_zero, List.set_cons_succ]
          refine takeU (i := 31) rfl (by kernel_rfl) (by kernel_rfl) (by kernel_rfl) (fun _ _ _ h => h) (by kernel_rfl) hHeld ?_
          try simp only [Act.put, List.setIfInBounds_toArray, List.set_cons_zero, List.set_cons_succ]
          refine takeU (i := 32) rfl (by kernel_rfl) (by kernel_rfl) (by kernel_rfl) (fun _ _ _ h => h) (by kernel_rfl) hHeld ?_
          try simp only [Act.put, List.setIfInBounds_toArray, List.set_cons_zero, List.set_cons_succ]
          refine takeU (i := 33) rfl (by kernel_rfl) (by kernel_rfl) (by kernel_rfl) (fun _ _ _ h => h) (by kernel_rfl) hHeld ?_
          try simp only [Act.put, List.setIfInBounds_toArray, List.set_cons_zero, List.set_cons_succ]
          refine takeU (i := 34) rfl (by kernel_rfl) (by kernel_rfl) (by kernel_rfl) (fun _ _ _ h => h) (by kernel_rfl) hHeld ?_
          try simp only [Act.put, List.setIfInBounds_toArray, List.set_cons_zero, List.set_cons_succ]
          refine takeU (i := 35) rfl (by kernel_rfl) (by kernel_rfl) (by kernel_rfl) (fun _ _ _ h => h) (by kernel_rfl) hHeld ?_
          try simp only [Act.put, List.setIfInBounds_toArray, List.set_cons_zero, List.set_cons_succ]
          refine takeW (i := 36) (v := ?v15) rfl (by kernel_rfl) (by kernel_rfl) (by kernel_rfl) (fun _ _ _ h => h) (by kernel_rfl) hHeld ?hy15 ?rest15
          case hy15 => (intro w hSw; (try dsimp only at hSw); go_simp; (try with_reducible rfl))
          try simp only [Act.put, List.setIfInBounds_toArray, List.set_cons_zero, List.set_cons_succ]
          refine takeW (i := 37) (v := ?v16) rfl (by kernel_rfl) (by kernel_rfl) (by kernel_rfl) (fun _ _ _ h => h) (by kernel_rfl) hHeld ?hy16 ?rest16
          case hy16 => (intro w hSw; (try dsimp only at hSw); go_simp; (try with_reducible rfl))
          try simp only [Act.put, List.setIfInBounds_toArray, List.set_cons_zero, List.set_cons_succ]
          refine wpAnyH_done (by kernel_rfl) ?_ _
          have HP9 := Lib.hid ht2
          clear ht2 ht1 c1 C2
          go_wp2_with fail
          go_ret
          exact HFIN.out HM.out _ _ (fun hq => absurd (HQ.out hq) HM.out) HP9.out.pa HP9.out.kb
  · go_upto_region 3 with fail
    go_cut [43] from 29 to 43 (fun v wx => v = .bool false ∧ w2 = wx)
    case first =>
      go_wp2_with fail
      all_goals
        go_meet
        exact ⟨rfl, rfl⟩
    case rest =>
      obtain ⟨rfl, rfl⟩ := hcut
      go_upto_if 43 with fail
      go_cut [7] from 44 to 49 (fun v wx => (∃ z : Int, v = .int .i64 z) ∧ w2 = wx)
      case first =>
        go_wp2_with fail
        go_meet
        exact ⟨⟨_, rfl⟩, rfl⟩
      case rest =>
        obtain ⟨⟨z, rfl⟩, rfl⟩ := hcut
        by_cases hm : mayCE (st x.g.data.toList) x.m z = mayCE (sk x.g.data.toList) x.m z
        · have HFIN : Hid (∀ (b : Bool) (w' : World), (stepQ x z st sk n nk ss rb O OK → b = true) → PA W p q t k ss rb st sk n nk (Of.coS 1000 O ⟨x.g, x.pt, x.pi⟩ x.at_) (Of.coS 1000 OK ⟨x.g, x.pt, x.pi⟩ x.at_) w' → KB w w' → StP W w p q t k ss rb x st sk n nk O OK (.returned (.bool b)) w') := Lib.hid (fun b w' hq hp hkb => ⟨b, true, z, n, nk, rfl, hq, .inl rfl, by
            have hs1 : stepSt x z st n ss rb = st := by unfold stepSt; simp [HD.out]
            have hs2 : stepSk x z sk nk ss rb = sk := by unfold stepSk; simp [HD.out]
            have ho : ∀ L, stepOO x true L = Of.coS 1000 L ⟨x.g, x.pt, x.pi⟩ x.at_ := fun L => by unfold stepOO; simp [HD.out]
            rw [hs1, hs2, ho, ho]
            exact hp.bump (by omega), hkb⟩)
          have HT := Lib.hid (⟨H2.out.later (Below.refl _ _).drew, HB2.out.drew, HK2.out.trans (KB.of_below (Below.refl _ _).drew)⟩ : PO W w p q t k ss rb st sk n nk O OK w.heap.size x w2.drew)
          have c1 : Calls Tryz.prog 18 #[.pointer (some ⟨p, 0, none⟩), .string x.g, .int .i64 x.m, .int .i64 z] w2.drew (fun en w' => en = .returned (.int .i64 (mayCE (st x.g.data.toList) x.m z)) ∧ PO W w p q t k ss rb st sk n nk O OK w.heap.size x w') := (pa_may HT.out.pa x.g HO.out.g x.m z).mono (by
            rintro en w3 ⟨rfl, H3, hkb⟩
            exact ⟨rfl, H3, hkb.op HT.out.bx, HT.out.kb.trans hkb⟩)
          have c2 : ∀ w', PO W w p q t k ss rb st sk n nk O OK w.heap.size x w' → Calls Tryz.prog 31 #[.pointer (some ⟨q, 0, none⟩), .string x.g, .int .i64 x.m, .int .i64 z] w' (fun en w'' => en = .returned (.int .i64 (mayCE (sk x.g.data.toList) x.m z)) ∧ PO W w p q t k ss rb st sk n nk O OK w.heap.size x w'') := fun w' hw => (ka_may hw.pa x.g x.m z).mono (by
            rintro en w3 ⟨rfl, H3, hkb⟩
            exact ⟨rfl, H3, hkb.op hw.bx, hw.kb.trans hkb⟩)
          have C3 : Hid (∀ w', PO W w p q t k ss rb st sk n nk O OK w.heap.size x w' → Calls Tryz.prog 19 #[.pointer (some ⟨p, 0, none⟩), .string x.g, .agg #[.string x.pt, .int .i64 x.pi], .int .i64 x.at_] w' (fun en w'' => en = .returned (.int .i64 (Of.coR 1000 O ⟨x.g, x.pt, x.pi⟩ x.at_)) ∧ PO W w p q t k ss rb st sk n nk (Of.coS 1000 O ⟨x.g, x.pt, x.pi⟩ x.at_) OK w.heap.size x w'')) := Lib.hid (fun w' hw => (pa_commit hw.pa x.g x.pt x.pi x.at_).mono (by
            rintro en w3 ⟨rfl, H3, hkb⟩
            exact ⟨rfl, H3, hkb.op hw.bx, hw.kb.trans hkb⟩))
          have C4 : Hid (∀ w', PO W w p q t k ss rb st sk n nk (Of.coS 1000 O ⟨x.g, x.pt, x.pi⟩ x.at_) OK w.heap.size x w' → Calls Tryz.prog 32 #[.pointer (some ⟨t, 0, none⟩), .string x.g, .agg #[.string x.pt, .int .i64 x.pi], .int .i64 x.at_] w' (fun en w'' => en = .returned (.int .i64 (Of.coR 1000 OK ⟨x.g, x.pt, x.pi⟩ x.at_)) ∧ PO W w p q t k ss rb st sk n nk (Of.coS 1000 O ⟨x.g, x.pt, x.pi⟩ x.at_) (Of.coS 1000 OK ⟨x.g, x.pt, x.pi⟩ x.at_) w.heap.size x w'')) := Lib.hid (fun w' hw => (ka_commit hw.pa x.g x.pt x.pi x.at_ HO.out.g HO.out.pt).mono (by
            rintro en w3 ⟨rfl, H3, hkb⟩
            exact ⟨rfl, H3, hkb.op hw.bx, hw.kb.trans hkb⟩))
          rw [← hm] at c2
          generalize mayCE (st x.g.data.toList) x.m z = mm at *
          have hmm : (mm == mm) = true := by simp
          have HQ : Hid (stepQ x z st sk n nk ss rb O OK → Of.coR 1000 O ⟨x.g, x.pt, x.pi⟩ x.at_ = Of.coR 1000 OK ⟨x.g, x.pt, x.pi⟩ x.at_) := Lib.hid (fun hq => by
            unfold stepQ at hq
            simp only [HD.out] at hq
            exact hq.2)
          generalize Of.coR 1000 O ⟨x.g, x.pt, x.pi⟩ x.at_ = r1 at *
          generalize Of.coR 1000 OK ⟨x.g, x.pt, x.pi⟩ x.at_ = r2 at *
          have C2 := Lib.hid c2
          clear c2 hm HB2 HK2 H2
          have xq := HT.out.pa.tab
          go_wp2_with fail
          go_region_held3 (fun wq => wq.cell? ⟨w.heap.size, 1, none⟩ = some (.string x.g) ∧ wq.cell? ⟨w.heap.size, 2, none⟩ = some (.int .i64 x.m) ∧ wq.cell? ⟨w.heap.size, 7, none⟩ = some (.string x.pt) ∧ wq.cell? ⟨w.heap.size, 8, none⟩ = some (.int .i64 x.pi) ∧ wq.cell? ⟨w.heap.size, 9, none⟩ = some (.int .i64 x.at_) ∧ wq.cell? ⟨q, 3, none⟩ = some (.pointer (some ⟨t, 0, none⟩)))
            (first | exact ⟨x1, x2, x7, x8, x9, xq⟩ | exact PO.cells4 (by assumption))
            (first | ((with_reducible refine c1.mono ?_); rintro e w3 ⟨rfl, ht1⟩) | ((with_reducible refine (C2.out _ (by assumption)).mono ?_); rintro e w4 ⟨rfl, ht2⟩) | ((with_reducible refine (C3.out _ (by assumption)).mono ?_); rintro e w5 ⟨rfl, ht3⟩) | ((with_reducible refine (C4.out _ (by assumption)).mono ?_); rintro e w6 ⟨rfl, ht4⟩))
          all_goals
            have HP9 := Lib.hid ht4
            clear ht4 ht3 ht2 ht1 c1 C2 C3 C4
            go_wp2_with fail
            go_ret
            exact HFIN.out _ _ (fun hq => by rw [HQ.out hq]; simp) HP9.out.pa HP9.out.kb
        · have HQ : Hid (stepQ x z st sk n nk ss rb O OK → mayCE (st x.g.data.toList) x.m z = mayCE (sk x.g.data.toList) x.m z) := Lib.hid (fun hq => by
            unfold stepQ at hq
            simp only [HD.out] at hq
            exact hq.1)
          have HFIN : Hid (mayCE (st x.g.data.toList) x.m z ≠ mayCE (sk x.g.data.toList) x.m z → ∀ (b : Bool) (w' : World), (stepQ x z st sk n nk ss rb O OK → b = true) → PA W p q t k ss rb st sk n nk O OK w' → KB w w' → StP W w p q t k ss rb x st sk n nk O OK (.returned (.bool b)) w') := Lib.hid (fun hne b w' hq hp hkb => ⟨b, false, z, n, nk, rfl, hq, .inr ⟨HD.out, hne⟩, by
            have hs1 : stepSt x z st n ss rb = st := by unfold stepSt; simp [HD.out]
            have hs2 : stepSk x z sk nk ss rb = sk := by unfold stepSk; simp [HD.out]
            have ho : ∀ L, stepOO x false L = L := fun L => by unfold stepOO; simp [HD.out]
            rw [hs1, hs2, ho, ho]
            exact hp.bump (by omega), hkb⟩)
          have HT := Lib.hid (⟨H2.out.later (Below.refl _ _).drew, HB2.out.drew, HK2.out.trans (KB.of_below (Below.refl _ _).drew)⟩ : PO W w p q t k ss rb st sk n nk O OK w.heap.size x w2.drew)
          have c1 : Calls Tryz.prog 18 #[.pointer (some ⟨p, 0, none⟩), .string x.g, .int .i64 x.m, .int .i64 z] w2.drew (fun en w' => en = .returned (.int .i64 (mayCE (st x.g.data.toList) x.m z)) ∧ PO W w p q t k ss rb st sk n nk O OK w.heap.size x w') := (pa_may HT.out.pa x.g HO.out.g x.m z).mono (by
            rintro en w3 ⟨rfl, H3, hkb⟩
            exact ⟨rfl, H3, hkb.op HT.out.bx, HT.out.kb.trans hkb⟩)
          have c2 : ∀ w', PO W w p q t k ss rb st sk n nk O OK w.heap.size x w' → Calls Tryz.prog 31 #[.pointer (some ⟨q, 0, none⟩), .string x.g, .int .i64 x.m, .int .i64 z] w' (fun en w'' => en = .returned (.int .i64 (mayCE (sk x.g.data.toList) x.m z)) ∧ PO W w p q t k ss rb st sk n nk O OK w.heap.size x w'') := fun w' hw => (ka_may hw.pa x.g x.m z).mono (by
            rintro en w3 ⟨rfl, H3, hkb⟩
            exact ⟨rfl, H3, hkb.op hw.bx, hw.kb.trans hkb⟩)
          have HM : Hid (mayCE (st x.g.data.toList) x.m z ≠ mayCE (sk x.g.data.toList) x.m z) := Lib.hid hm
          have hmm : (mayCE (st x.g.data.toList) x.m z == mayCE (sk x.g.data.toList) x.m z) = false := beq_eq_false_iff_ne.2 hm
          generalize hg1 : mayCE (st x.g.data.toList) x.m z = m1 at c1 hmm
          generalize hg2 : mayCE (sk x.g.data.toList) x.m z = m2 at c2 hmm
          have C2 := Lib.hid c2
          clear c2 hm hg1 hg2 HB2 HK2 H2
          have xq := HT.out.pa.tab
          go_wp2_with fail
          have hS0 : (fun wq => wq.cell? ⟨w.heap.size, 1, none⟩ = some (.string x.g) ∧ wq.cell? ⟨w.heap.size, 2, none⟩ = some (.int .i64 x.m) ∧ wq.cell? ⟨w.heap.size, 7, none⟩ = some (.string x.pt) ∧ wq.cell? ⟨w.heap.size, 8, none⟩ = some (.int .i64 x.pi) ∧ wq.cell? ⟨w.heap.size, 9, none⟩ = some (.int .i64 x.at_) ∧ wq.cell? ⟨q, 3, none⟩ = some (.pointer (some ⟨t, 0, none⟩))) w2.drew := ⟨x1, x2, x7, x8, x9, xq⟩
          refine wp_region_held_drew (S := (fun wq => wq.cell? ⟨w.heap.size, 1, none⟩ = some (.string x.g) ∧ wq.cell? ⟨w.heap.size, 2, none⟩ = some (.int .i64 x.m) ∧ wq.cell? ⟨w.heap.size, 7, none⟩ = some (.string x.pt) ∧ wq.cell? ⟨w.heap.size, 8, none⟩ = some (.int .i64 x.pi) ∧ wq.cell? ⟨w.heap.size, 9, none⟩ = some (.int .i64 x.at_) ∧ wq.cell? ⟨q, 3, none⟩ = some (.pointer (some ⟨t, 0, none⟩)))) (by kernel_rfl) hS0 (fun hHeld => ?_)
          refine takeW (i := 0) (v := ?v1b) rfl (by kernel_rfl) (by kernel_rfl) (by kernel_rfl) (fun _ _ _ h => h) (by kernel_rfl) hHeld ?hy1b ?rest1b
          case hy1b => (intro w hSw; (try dsimp only at hSw); go_simp; (try with_reducible rfl))
          try simp only [Act.put, List.setIfInBounds_toArray, List.set_cons_zero, List.set_cons_succ]
          refine takeW (i := 1) (v := ?v2b) rfl (by kernel_rfl) (by kernel_rfl) (by kernel_rfl) (fun _ _ _ h => h) (by kernel_rfl) hHeld ?hy2b ?rest2b
          case hy2b => (intro w hSw; (try dsimp only at hSw); go_simp; (try with_reducible rfl))
          try simp only [Act.put, List.setIfInBounds_toArray, List.set_cons_zero, List.set_cons_succ]
          refine takeW (i := 2) (v := ?v3b) rfl (by kernel_rfl) (by kernel_rfl) (by kernel_rfl) (fun _ _ _ h => h) (by kernel_rfl) hHeld ?hy3b ?rest3b
          case hy3b => (intro w hSw; (try dsimp only at hSw); go_simp; (try with_reducible rfl))
          try simp only [Act.put, List.setIfInBounds_toArray, List.set_cons_zero, List.set_cons_succ]
          refine takeW (i := 3) (v := ?v4b) rfl (by kernel_rfl) (by kernel_rfl) (by kernel_rfl) (fun _ _ _ h => h) (by kernel_rfl) hHeld ?hy4b ?rest4b
          case hy4b => (intro w hSw; (try dsimp only at hSw); go_simp; (try with_reducible rfl))
          try simp only [Act.put, List.setIfInBounds_toArray, List.set_cons_zero, List.set_cons_succ]
          refine takeW (i := 4) (v := ?v5b) rfl (by kernel_rfl) (by kernel_rfl) (by kernel_rfl) (fun _ _ _ h => h) (by kernel_rfl) hHeld ?hy5b ?rest5b
          case hy5b => (intro w hSw; (try dsimp only at hSw); go_simp; (try with_reducible rfl))
          try simp only [Act.put, List.setIfInBounds_toArray, List.set_cons_zero, List.set_cons_succ]
          refine takeW (i := 5) (v := ?v6b) rfl (by kernel_rfl) (by kernel_rfl) (by kernel_rfl) (fun _ _ _ h => h) (by kernel_rfl) hHeld ?hy6b ?rest6b
          case hy6b => (intro w hSw; (try dsimp only at hSw); go_simp; (try with_reducible rfl))
          try simp only [Act.put, List.setIfInBounds_toArray, List.set_cons_zero, List.set_cons_succ]
          refine takeW (i := 7) (v := ?v7b) rfl (by kernel_rfl) (by kernel_rfl) (by kernel_rfl) (fun _ _ _ h => h) (by kernel_rfl) hHeld ?hy7b ?rest7b
          case hy7b => (intro w hSw; (try dsimp only at hSw); go_simp; (try with_reducible rfl))
          try simp only [Act.put, List.setIfInBounds_toArray, List.set_cons_zero, List.set_cons_succ]
          refine takeW (i := 8) (v := ?v8b) rfl (by kernel_rfl) (by kernel_rfl) (by kernel_rfl) (fun _ _ _ h => h) (by kernel_rfl) hHeld ?hy8b ?rest8b
          case hy8b => (intro w hSw; (try dsimp only at hSw); go_simp; (try with_reducible rfl))
          try simp only [Act.put, List.setIfInBounds_toArray, List.set_cons_zero, List.set_cons_succ]
          refine takeW (i := 9) (v := ?v9b) rfl (by kernel_rfl) (by kernel_rfl) (by kernel_rfl) (fun _ _ _ h => h) (by kernel_rfl) hHeld ?hy9b ?rest9b
          case hy9b => (intro w hSw; (try dsimp only at hSw); go_simp; (try with_reducible rfl))
          try simp only [Act.put, List.setIfInBounds_toArray, List.set_cons_zero, List.set_cons_succ]
          refine takeW (i := 10) (v := ?v10b) rfl (by kernel_rfl) (by kernel_rfl) (by kernel_rfl) (fun _ _ _ h => h) (by kernel_rfl) hHeld ?hy10b ?rest10b
          case hy10b => (intro w hSw; (try dsimp only at hSw); go_simp; (try with_reducible rfl))
          try simp only [Act.put, List.setIfInBounds_toArray, List.set_cons_zero, List.set_cons_succ]
          refine takeW (i := 11) (v := ?v11b) rfl (by kernel_rfl) (by kernel_rfl) (by kernel_rfl) (fun _ _ _ h => h) (by kernel_rfl) hHeld ?hy11b ?rest11b
          case hy11b => (intro w hSw; (try dsimp only at hSw); go_simp; (try with_reducible rfl))
          try simp only [Act.put, List.setIfInBounds_toArray, List.set_cons_zero, List.set_cons_succ]
          refine takeW (i := 12) (v := ?v12b) rfl (by kernel_rfl) (by kernel_rfl) (by kernel_rfl) (fun _ _ _ h => h) (by kernel_rfl) hHeld ?hy12b ?rest12b
          case hy12b => (intro w hSw; (try dsimp only at hSw); go_simp; (try with_reducible rfl))
          try simp only [Act.put, List.setIfInBounds_toArray, List.set_cons_zero, List.set_cons_succ]
          refine wpAnyH_ready (rs := [6]) (by kernel_rfl) (by simp) ?_
          refine consL rfl (by kernel_rfl) (fun K hK => ?_) AllReadyH.nil
          go_simp
          with_reducible refine c1.mono ?_
          rintro en w3 ⟨rfl, ht1⟩
          refine hK.out _ _ (PO.cells4 ht1) (fun hHeld => ?_)
          clear hK K
          try simp only [Act.put, List.setIfInBounds_toArray, List.set_cons_zero, List.set_cons_succ]
          refine wpAnyH_ready (rs := [13]) (by kernel_rfl) (by simp) ?_
          refine consL rfl (by kernel_rfl) (fun K hK => ?_) AllReadyH.nil
          go_simp
          with_reducible refine (C2.out _ ht1).mono ?_
          rintro en w4 ⟨rfl, ht2⟩
          refine hK.out _ _ (PO.cells4 ht2) (fun hHeld => ?_)
          clear hK K
          try simp only [Act.put, List.setIfInBounds_toArray, List.set_cons_zero, List.set_cons_succ]
          refine takeW (i := 14) (v := .bool false) rfl (by kernel_rfl) (by kernel_rfl) (by kernel_rfl) (fun _ _ _ h => h) (by kernel_rfl) hHeld ?hy13b ?rest13b
          case hy13b => (intro w hSw; (try dsimp only at hSw); go_simp; (try first | (rw [hmm]; done) | (simp only [hmm]; done) | (rw [hmm]; rfl)))
          try simp only [Act.put, List.setIfInBounds_toArray, List.set_cons_zero, List.set_cons_succ]
          refine takeW (i := 15) (v := ?v14b) rfl (by kernel_rfl) (by kernel_rfl) (by kernel_rfl) (fun _ _ _ h => h) (by kernel_rfl) hHeld ?hy14b ?rest14b
          case hy14b => (intro w hSw; (try dsimp only at hSw); go_simp; (try with_reducible rfl))
          try simp only [Act.put, List.setIfInBounds_toArray, List.set_cons_zero, List.set_cons_succ]
          refine takeU (i := 16) rfl (by kernel_rfl) (by kernel_rfl) (by kernel_rfl) (fun _ _ _ h => h) (by kernel_rfl) hHeld ?_
          try simp only [Act.put, List.setIfInBounds_toArray, List.set_cons_zero, List.set_cons_succ]
          refine takeU (i := 17) rfl (by kernel_rfl) (by kernel_rfl) (by kernel_rfl) (fun _ _ _ h => h) (by kernel_rfl) hHeld ?_
          try simp only [Act.put, List.setIfInBounds_toArray, List.set_cons_zero, List.set_cons_succ]
          refine takeU (i := 18) rfl (by kernel_rfl) (by kernel_rfl) (by kernel_rfl) (fun _ _ _ h => h) (by kernel_rfl) hHeld ?_
          try simp only [Act.put, List.setIfInBounds_toArray, List.set_cons_zero, List.set_cons_succ]
          refine takeU (i := 19) rfl (by kernel_rfl) (by kernel_rfl) (by kernel_rfl) (fun _ _ _ h => h) (by kernel_rfl) hHeld ?_
          try simp only [Act.put, List.setIfInBounds_toArray, List.set_cons_zero, List.set_cons_succ]
          refine takeU (i := 20) rfl (by kernel_rfl) (by kernel_rfl) (by kernel_rfl) (fun _ _ _ h => h) (by kernel_rfl) hHeld ?_
          try simp only [Act.put, List.setIfInBounds_toArray, List.set_cons_zero, List.set_cons_succ]
          refine takeU (i := 21) rfl (by kernel_rfl) (by kernel_rfl) (by kernel_rfl) (fun _ _ _ h => h) (by kernel_rfl) hHeld ?_
          try simp only [Act.put, List.setIfInBounds_toArray, List.set_cons_zero, List.set_cons_succ]
          refine takeU (i := 22) rfl (by kernel_rfl) (by kernel_rfl) (by kernel_rfl) (fun _ _ _ h => h) (by kernel_rfl) hHeld ?_
          try simp only [Act.put, List.setIfInBounds_toArray, List.set_cons_zero, List.set_cons_succ]
          refine takeU (i := 23) rfl (by kernel_rfl) (by kernel_rfl) (by kernel_rfl) (fun _ _ _ h => h) (by kernel_rfl) hHeld ?_
          try simp only [Act.put, List.setIfInBounds_toArray, List.set_cons_zero, List.set_cons_succ]
          refine takeU (i := 24) rfl (by kernel_rfl) (by kernel_rfl) (by kernel_rfl) (fun _ _ _ h => h) (by kernel_rfl) hHeld ?_
          try simp only [Act.put, List.setIfInBounds_toArray, List.set_cons_zero, List.set_cons_succ]
          refine takeU (i := 25) rfl (by kernel_rfl) (by kernel_rfl) (by kernel_rfl) (fun _ _ _ h => h) (by kernel_rfl) hHeld ?_
          try simp only [Act.put, List.setIfInBounds_toArray, List.set_cons_zero, List.set_cons_succ]
          refine takeU (i := 26) rfl (by kernel_rfl) (by kernel_rfl) (by kernel_rfl) (fun _ _ _ h => h) (by kernel_rfl) hHeld ?_
          try simp only [Act.put, List.setIfInBounds_toArray, List.set_cons_zero, List.set_cons_succ]
          refine takeU (i := 27) rfl (by kernel_rfl) (by kernel_rfl) (by kernel_rfl) (fun _ _ _ h => h) (by kernel_rfl) hHeld ?_
          try simp only [Act.put, List.setIfInBounds_toArray, List.set_cons_zero, List.set_cons_succ]
          refine takeU (i := 28) rfl (by kernel_rfl) (by kernel_rfl) (by kernel_rfl) (fun _ _ _ h => h) (by kernel_rfl) hHeld ?_
          try simp only [Act.put, List.setIfInBounds_toArray, List.set_cons_zero, List.set_cons_succ]
          refine takeU (i := 29) rfl (by kernel_rfl) (by kernel_rfl) (by kernel_rfl) (fun _ _ _ h => h) (by kernel_rfl) hHeld ?_
          try simp only [Act.put, List.setIfInBounds_toArray, List.set_cons_zero, List.set_cons_succ]
          refine takeU (i := 30) rfl (by kernel_rfl) (by kernel_rfl) (by kernel_rfl) (fun _ _ _ h => h) (by kernel_rfl) hHeld ?_
          try simp only [Act.put, List.setIfInBounds_toArray, List.set_cons_zero, List.set_cons_succ]
          refine takeU (i := 31) rfl (by kernel_rfl) (by kernel_rfl) (by kernel_rfl) (fun _ _ _ h => h) (by kernel_rfl) hHeld ?_
          try simp only [Act.put, List.setIfInBounds_toArray, List.set_cons_zero, List.set_cons_succ]
          refine takeU (i := 32) rfl (by kernel_rfl) (by kernel_rfl) (by kernel_rfl) (fun _ _ _ h => h) (by kernel_rfl) hHeld ?_
          try simp only [Act.put, List.setIfInBounds_toArray, List.set_cons_zero, List.set_cons_succ]
          refine takeU (i := 33) rfl (by kernel_rfl) (by kernel_rfl) (by kernel_rfl) (fun _ _ _ h => h) (by kernel_rfl) hHeld ?_
          try simp only [Act.put, List.setIfInBounds_toArray, List.set_cons_zero, List.set_cons_succ]
          refine takeU (i := 34) rfl (by kernel_rfl) (by kernel_rfl) (by kernel_rfl) (fun _ _ _ h => h) (by kernel_rfl) hHeld ?_
          try simp only [Act.put, List.setIfInBounds_toArray, List.set_cons_zero, List.set_cons_succ]
          refine takeU (i := 35) rfl (by kernel_rfl) (by kernel_rfl) (by kernel_rfl) (fun _ _ _ h => h) (by kernel_rfl) hHeld ?_
          try simp only [Act.put, List.setIfInBounds_toArray, List.set_cons_zero, List.set_cons_succ]
          refine takeW (i := 36) (v := ?v15b) rfl (by kernel_rfl) (by kernel_rfl) (by kernel_rfl) (fun _ _ _ h => h) (by kernel_rfl) hHeld ?hy15b ?rest15b
          case hy15b => (intro w hSw; (try dsimp only at hSw); go_simp; (try with_reducible rfl))
          try simp only [Act.put, List.setIfInBounds_toArray, List.set_cons_zero, List.set_cons_succ]
          refine takeW (i := 37) (v := ?v16b) rfl (by kernel_rfl) (by kernel_rfl) (by kernel_rfl) (fun _ _ _ h => h) (by kernel_rfl) hHeld ?hy16b ?rest16b
          case hy16b => (intro w hSw; (try dsimp only at hSw); go_simp; (try with_reducible rfl))
          try simp only [Act.put, List.setIfInBounds_toArray, List.set_cons_zero, List.set_cons_succ]
          refine wpAnyH_done (by kernel_rfl) ?_ _
          have HP9 := Lib.hid ht2
          clear ht2 ht1 c1 C2
          go_wp2_with fail
          go_ret
          exact HFIN.out HM.out _ _ (fun hq => absurd (HQ.out hq) HM.out) HP9.out.pa HP9.out.kb
end
end Go.Proofs.YtlokhhjhckiloaaGreat
