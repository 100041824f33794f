/- expr: the document's reader of a part, by a contract. -/
import Derived.Test.YtneholfghffpfaaExRow
import Derived.Test.YtneholfghffpfaaExTx
import Derived.Deep.AppendLies
import Derived.Deep.RegionLaw
import Derived.Deep.DeepCutAuto
import Derived.LoopTactic
import Derived.Deep.CutBlock
namespace Go.Proofs.Ytneholfghffpfaa
open Go.RowKit
set_option linter.unusedVariables false
theorem PartAt.set0 {ty : TypeId} {W w : World} {rb bx d : Nat} {s : ByteArray} {p n e : Int} {x y z v : Value} (h : PartAt ty W rb bx d s p n e x y z v [] w) (u : Value) : PartAt ty W rb bx d s p n e u y z v [] (w.setCell ⟨bx, 0, none⟩ u) := by
  have h1 := h.rbl
  have h2 := h.lt
  refine ⟨h.lt, h.rbl, h.rd.far (by show rb ≠ bx; omega) _, h.box.set 0 u, h.res.far (by show W.heap.size ≠ bx; omega) _, ?_, fun k hk => (by cases hk), h.off.set (.inr (by show W.heap.size ≤ bx; omega)) _⟩
  exact own_off h.own (Off.one w ⟨bx, 0, none⟩ u) (fun k hk e => by have := (h.own.lt k hk).1; have e2 : k = bx := e; omega)
theorem rpart_result {w : World} (g : Nat) {v0 v1 v2 v3 : Value} (h : Box w g 24 #[v0, v1, v2, v3]) (tmps : Array Value) (ht : (tmps[4]?).getD undef = .pointer (some ⟨g, 0, none⟩)) :
    (results Try.f36 tmps).run Try.prog w = .ok (.agg #[v0, v1, v2, v3]) w := by
  have c0 := (h.cell 0).trans (show _ = some v0 from rfl)
  have c1 := (h.cell 1).trans (show _ = some v1 from rfl)
  have c2 := (h.cell 2).trans (show _ = some v2 from rfl)
  have c3 := (h.cell 3).trans (show _ = some v3 from rfl)
  simp [results, Try.results36, go_sem, ht, c0, c1, c2, c3]
set_option maxHeartbeats 4000000 in
set_option maxRecDepth 100000 in
theorem rexpr_in (s : ByteArray) (f : Nat) (lv p n : Int) (rb : Nat) (W : World) (g : Int → Int → Tr × Int × Int × Int) (R : Tr × Int × Int × Int) (hs : s.size ≤ 1152921504606846976) (hlv : lv = (f : Int)) (hf : f ≤ 6) (hp : 0 ≤ p ∧ p ≤ s.size) (hn : 0 ≤ n ∧ n ≤ 30) (h : Box W rb 61 (xrC s p n 0))
    (hok : ∀ p n : Int, 0 ≤ p → p ≤ s.size → 0 ≤ n → (g p n).2.2.2 = 0 → 0 ≤ (g p n).2.1 ∧ (g p n).2.1 ≤ s.size ∧ 0 ≤ (g p n).2.2.1 ∧ (g p n).2.2.1 ≤ 30)
    (hkid : 0 < f → ∀ (p n : Int) w, 0 ≤ p ∧ p ≤ s.size → 0 ≤ n ∧ n ≤ 30 → Box w rb 61 (xrC s p n 0) → Calls Try.prog 36 #[.pointer (some ⟨rb, 0, none⟩), .int .i64 (lv - 1)] w (GotPart 61 w rb (f - 1) s (g p n)))
    (hR : R = wrapG (headG s (decide (0 < f)) p n) (loopG g (headG s (decide (0 < f)) p n).kids.toNat (headG s (decide (0 < f)) p n).p (headG s (decide (0 < f)) p n).n (headG s (decide (0 < f)) p n).e)) :
    Calls Try.prog 36 #[.pointer (some ⟨rb, 0, none⟩), .int .i64 lv] W (GotPart 61 W rb f s R) := by
  have hb0 := fun w (h : Box w rb 61 (xrC s p n 0)) => rbyte_c s p n 0 rb w hs hp h
  have hrl := h.lt
  obtain ⟨hn0, hn1⟩ := hn
  have hl1 : 0 ≤ lv := by omega
  have hl2 : lv ≤ 6 := by omega
  have HLF : Hid (decide (0 < f) = decide (1 ≤ lv)) := Lib.hid (by congr 1; apply propext; omega)
  have HR := Lib.hid hR
  have HL := Lib.hid hlv
  clear hR hlv hf
  have H0 : Hid (PartAt 61 W rb (W.heap.size + 1) (f - 1) s p n 0 (.int .i64 0) (.string ⟨#[]⟩) (.string ⟨#[]⟩) (.slice none 0 0) [] ((W.alloc (.cells #[.int .i64 0, .string ⟨#[]⟩, .string ⟨#[]⟩, .slice none 0 0] 24)).alloc (.cells #[.int .i64 0, .string ⟨#[]⟩, .string ⟨#[]⟩, .slice none 0 0] 24))) :=
    Lib.hid (PartAt.start ((h.alloc _).alloc _) hrl ((Box.new _ _ _).alloc _) (by have h1 := Box.new (W.alloc (.cells #[.int .i64 0, .string ⟨#[]⟩, .string ⟨#[]⟩, .slice none 0 0] 24)) 24 #[.int .i64 0, .string ⟨#[]⟩, .string ⟨#[]⟩, .slice none 0 0]; simpa using h1) (by omega) (((Off.refl _ _).alloc _).alloc _))
  clear h
  have HOP := Lib.hid (byteG_range s p 0)
  have HPR := Lib.hid (byteG_at (s := s) (p := p) (e := 0) hp.1 hp.2)
  have HHD := Lib.hid (headG_is s (decide (0 < f)) p n (byteG s p 0).1 (byteG s p 0).2.1 (byteG s p 0).2.2 _ rfl rfl)
  have HBAD : Hid (f = 0 → (headG s (decide (0 < f)) p n).e ≠ 0) := Lib.hid (fun hf => by rw [show decide (0 < f) = false from decide_eq_false (by omega)]; exact headG_bad s p n)
  have HIN := Lib.hid (headG_in s (decide (0 < f)) p n)
  have HOKP := Lib.hid (fun ks a b => headG_ok (s := s) (p := p) (n := n) (ok := decide (0 < f)) hp.1 hp.2 a ks b)
  generalize headG s (decide (0 < f)) p n = H at *
  go_enter Try.func36, Try.ntmps36
  go_wp2_with fail
  with_reducible refine (hb0 _ H0.out.rd).mono ?_
  rintro en w1 ⟨rfl, hb1, ho1⟩
  have HP := Lib.hid (H0.out.moved hb1 ho1)
  have HBX : Hid (rb ≠ W.heap.size + 1) := Lib.hid (by omega)
  clear hb1 ho1 H0 hb0
  generalize (byteG s p 0).1 = op at *
  generalize (byteG s p 0).2.1 = p1 at *
  generalize (byteG s p 0).2.2 = e1 at *
  obtain ⟨k0, k1, k2, k3, l0, l1, l2, l3⟩ := HP.out.cells
  have HP1 := Lib.hid (HP.out.set0 (.int .i64 op))
  obtain ⟨m0, m1, m2, m3, o0, o1, o2, o3⟩ := HP1.out.cells
  obtain ⟨x0, x1, x2, x3, y0, y1, y2, y3⟩ := HP1.out.rd.xr
  have HP2 : Hid (PartAt 61 W rb (W.heap.size + 1) (f - 1) s p1 (n + 1) e1 (.int .i64 op) (.string ⟨#[]⟩) (.string ⟨#[]⟩) (.slice none 0 0) [] ((w1.setCell ⟨W.heap.size + 1, 0, none⟩ (.int .i64 op)).setCell ⟨rb, 2, none⟩ (.int .i64 (n + 1)))) := Lib.hid (HP1.out.setr 2 _ rfl)
  have HP5 : Hid (PartAt 61 W rb (W.heap.size + 1) (f - 1) s p1 (n + 1) 3 (.int .i64 op) (.string ⟨#[]⟩) (.string ⟨#[]⟩) (.slice none 0 0) [] (((w1.setCell ⟨W.heap.size + 1, 0, none⟩ (.int .i64 op)).setCell ⟨rb, 2, none⟩ (.int .i64 (n + 1))).setCell ⟨rb, 3, none⟩ (.int .i64 3))) := Lib.hid (HP2.out.setr 3 _ rfl)
  obtain ⟨bad, hbad⟩ : ∃ bad, bad = decide (e1 = 0 ∧ (lv < 1 ∨ 30 < n + 1 ∨ 7 < op)) := ⟨_, rfl⟩
  have HQ : Hid ((e1 ≠ 0 ∧ bad = false) ∨ (e1 = 0 ∧ lv < 1 ∧ decide (lv < 1) = true ∧ bad = true) ∨ (e1 = 0 ∧ decide (lv < 1) = false ∧ 30 < n + 1 ∧ decide (30 < n + 1) = true ∧ bad = true) ∨ (e1 = 0 ∧ decide (lv < 1) = false ∧ decide (30 < n + 1) = false ∧ 7 < op ∧ decide (7 < op) = true ∧ bad = true) ∨ (e1 = 0 ∧ decide (lv < 1) = false ∧ decide (30 < n + 1) = false ∧ decide (7 < op) = false ∧ bad = false)) := Lib.hid (by
    rw [hbad]
    by_cases q0 : e1 = 0
    · by_cases q1 : lv < 1
      · exact .inr (.inl ⟨q0, q1, decide_eq_true q1, decide_eq_true ⟨q0, .inl q1⟩⟩)
      · by_cases q2 : 30 < n + 1
        · exact .inr (.inr (.inl ⟨q0, decide_eq_false q1, q2, decide_eq_true q2, decide_eq_true ⟨q0, .inr (.inl q2)⟩⟩))
        · by_cases q3 : 7 < op
          · exact .inr (.inr (.inr (.inl ⟨q0, decide_eq_false q1, decide_eq_false q2, q3, decide_eq_true q3, decide_eq_true ⟨q0, .inr (.inr q3)⟩⟩)))
          · exact .inr (.inr (.inr (.inr ⟨q0, decide_eq_false q1, decide_eq_false q2, decide_eq_false q3, decide_eq_false (by omega)⟩)))
    · exact .inl ⟨q0, decide_eq_false (fun x => q0 x.1)⟩)
  have HE2 : Hid ((if bad = true then 3 else e1) = (if 7 < op then demG (demG e1 (decide (n + 1 ≤ 30) && decide (0 < f))) false else demG e1 (decide (n + 1 ≤ 30) && decide (0 < f)))) := Lib.hid (by
    rw [HLF.out, hbad]
    by_cases q0 : e1 = 0
    · subst q0
      by_cases q1 : lv < 1
      · rw [decide_eq_true (show (0 : Int) = 0 ∧ (lv < 1 ∨ 30 < n + 1 ∨ 7 < op) from ⟨rfl, .inl q1⟩), if_pos rfl, decide_eq_false (show ¬ 1 ≤ lv by omega), Bool.and_false]
        split <;> rfl
      · by_cases q2 : 30 < n + 1
        · rw [decide_eq_true (show (0 : Int) = 0 ∧ (lv < 1 ∨ 30 < n + 1 ∨ 7 < op) from ⟨rfl, .inr (.inl q2)⟩), if_pos rfl, decide_eq_false (show ¬ n + 1 ≤ 30 by omega), Bool.false_and]
          split <;> rfl
        · rw [decide_eq_true (show n + 1 ≤ 30 by omega), decide_eq_true (show 1 ≤ lv by omega)]
          by_cases q3 : 7 < op
          · rw [decide_eq_true (show (0 : Int) = 0 ∧ (lv < 1 ∨ 30 < n + 1 ∨ 7 < op) from ⟨rfl, .inr (.inr q3)⟩), if_pos rfl, if_pos q3]; rfl
          · rw [decide_eq_false (show ¬ ((0 : Int) = 0 ∧ (lv < 1 ∨ 30 < n + 1 ∨ 7 < op)) by omega), if_neg (by simp), if_neg q3]; rfl
    · rw [decide_eq_false (fun x => q0 x.1), if_neg (by simp)]
      have : ∀ r, demG e1 r = e1 := fun r => by unfold demG; rw [if_neg (fun x => q0 x.1)]
      rw [this, this]
      split <;> rfl)
  clear hbad
  go_upto_region 4 with fail
  obtain ⟨z0, z1, z2, z3, v0, v1, v2, v3⟩ := HP2.out.rd.xr
  obtain ⟨t0, t1, t2, t3, r0, r1, r2, r3⟩ := HP2.out.cells
  go_cut [39] (fun f w => f = .bool bad ∧ ((w1.setCell ⟨W.heap.size + 1, 0, none⟩ (.int .i64 op)).setCell ⟨rb, 2, none⟩ (.int .i64 (n + 1))) = w)
  case first =>
    rcases HQ.out with ⟨q0, rfl⟩ | ⟨rfl, q1, q2, rfl⟩ | ⟨rfl, q1, q2, q3, rfl⟩ | ⟨rfl, q1, q2, q3, q4, rfl⟩ | ⟨rfl, q1, q2, q3, rfl⟩
    · have g1 : (e1 == 0) = false := by rw [beq_eq_false_iff_ne]; exact q0
      clear q0
      go_wp2_with fail
      go_meet
      exact ⟨rfl, rfl⟩
    · go_wp2_with fail
      go_meet
      exact ⟨rfl, rfl⟩
    · go_wp2_with fail
      go_meet
      exact ⟨rfl, rfl⟩
    · go_wp2_with fail
      go_meet
      exact ⟨rfl, rfl⟩
    · go_wp2_with fail
      go_meet
      exact ⟨rfl, rfl⟩
  case rest =>
    obtain ⟨rfl, rfl⟩ := hcut
    go_upto_if 39 with fail
    go_cut [] (fun w => PartAt 61 W rb (W.heap.size + 1) (f - 1) s p1 (n + 1) (if 7 < op then demG (demG e1 (decide (n + 1 ≤ 30) && decide (0 < f))) false else demG e1 (decide (n + 1 ≤ 30) && decide (0 < f))) (.int .i64 op) (.string ⟨#[]⟩) (.string ⟨#[]⟩) (.slice none 0 0) [] w)
    case first =>
      have he2 := HE2.out
      cases bad with
      | true =>
        go_wp2_with fail
        go_meet
        rw [← he2]
        exact HP5.out
      | false =>
        go_wp2_with fail
        go_meet
        rw [← he2]
        exact HP2.out
    case rest =>
      have HP3 := Lib.hid hcut
      clear hcut HP2 HP1 HP5 HP HQ HE2 x0 x1 x2 x3 y0 y1 y2 y3 z0 z1 z2 z3 v0 v1 v2 v3 k0 k1 k2 k3 l0 l1 l2 l3 m0 m1 m2 m3 o0 o1 o2 o3 t0 t1 t2 t3 r0 r1 r2 r3
      generalize demG e1 (decide (n + 1 ≤ 30) && decide (0 < f)) = e2 at *
      have hbt := fun w (h : Box w rb 61 (xrC s p1 (n + 1) e2)) => rbyte_c s p1 (n + 1) e2 rb w hs HPR.out h
      have htx := fun w q e (h : Box w rb 61 (xrC s q (n + 1) e)) => rword_c s q (n + 1) e rb w hs h
      obtain ⟨x0, x1, x2, x3, y0, y1, y2, y3⟩ := HP3.out.cells
      go_upto_block 0 with fail
      go_cut [6] (fun k w => k = .int .i64 H.kids ∧ PartAt 61 W rb (W.heap.size + 1) (f - 1) s H.p H.n H.e (.int .i64 H.op) (.string H.name) (.string H.value) (.slice none 0 0) [] w)
      case first =>
        obtain ⟨hop0, hop1⟩ := HOP.out
        rcases HHD.out with ⟨rfl, rfl⟩ | ⟨q, rfl⟩ | ⟨rfl, rfl⟩ | ⟨rfl, rfl⟩ | ⟨rfl, rfl⟩ | ⟨q, rfl⟩ | ⟨q, rfl⟩
        · have h3 := HP3.out
          rw [if_neg (by omega)] at h3
          have HP3 := Lib.hid h3
          clear h3
          go_wp2_with fail
          go_meet
          exact ⟨rfl, HP3.out⟩
        · have h3 := HP3.out
          rw [if_neg (by omega)] at h3
          have HP3 := Lib.hid h3
          clear h3
          have HBR := Lib.hid (byteG_range s p1 e2)
          generalize (byteG s p1 e2).1 = k at *
          generalize (byteG s p1 e2).2.1 = p2 at *
          generalize (byteG s p1 e2).2.2 = e3 at *
          have HQ : Hid ((e3 ≠ 0 ∧ demG e3 (manyK k) = e3) ∨ (e3 = 0 ∧ k < 2 ∧ decide (k < 2) = true ∧ demG 0 (manyK k) = 3) ∨ (e3 = 0 ∧ decide (k < 2) = false ∧ 30 < k ∧ decide (30 < k) = true ∧ demG 0 (manyK k) = 3) ∨ (e3 = 0 ∧ decide (k < 2) = false ∧ decide (30 < k) = false ∧ demG 0 (manyK k) = 0)) := Lib.hid (by
            unfold manyK
            by_cases q0 : e3 = 0
            · by_cases q1 : k < 2
              · exact .inr (.inl ⟨q0, q1, decide_eq_true q1, by rw [decide_eq_false (show ¬ 2 ≤ k by omega)]; rfl⟩)
              · by_cases q2 : 30 < k
                · exact .inr (.inr (.inl ⟨q0, decide_eq_false q1, q2, decide_eq_true q2, by rw [decide_eq_false (show ¬ k ≤ 30 by omega), Bool.and_false]; rfl⟩))
                · exact .inr (.inr (.inr ⟨q0, decide_eq_false q1, decide_eq_false q2, by rw [decide_eq_true (show 2 ≤ k by omega), decide_eq_true (show k ≤ 30 by omega)]; rfl⟩))
            · exact .inl ⟨q0, by unfold demG; rw [if_neg (fun x => q0 x.1)]⟩)
          generalize manyK k = m at *
          rcases q with rfl | rfl
          all_goals
            go_wp2_with fail
            with_reducible refine (hbt _ HP3.out.rd).mono ?_
            rintro en w2 ⟨rfl, hb2, ho2⟩
            have HM := Lib.hid (HP3.out.moved hb2 ho2)
            clear hb2 ho2 x0 x1 x2 x3 y0 y1 y2 y3
            obtain ⟨x0, x1, x2, x3, y0, y1, y2, y3⟩ := HM.out.rd.xr
            rcases HQ.out with ⟨q0, q5⟩ | ⟨rfl, q1, q2, q5⟩ | ⟨rfl, q1, q2, q3, q5⟩ | ⟨rfl, q1, q2, q5⟩
            · have g1 : (e3 == 0) = false := by rw [beq_eq_false_iff_ne]; exact q0
              have Q5 := Lib.hid q5
              clear q0 q5
              go_wp2_with fail
              go_meet
              exact ⟨rfl, by simp only [Q5.out]; exact HM.out⟩
            · have HM2 := Lib.hid (HM.out.setr (p' := p2) (n' := n + 1) (e' := 3) 3 (.int .i64 3) rfl)
              have Q5 := Lib.hid q5
              clear q5
              go_wp2_with fail
              go_meet
              exact ⟨rfl, by simp only [Q5.out]; exact HM2.out⟩
            · have HM2 := Lib.hid (HM.out.setr (p' := p2) (n' := n + 1) (e' := 3) 3 (.int .i64 3) rfl)
              have Q5 := Lib.hid q5
              clear q5
              go_wp2_with fail
              go_meet
              exact ⟨rfl, by simp only [Q5.out]; exact HM2.out⟩
            · have Q5 := Lib.hid q5
              clear q5
              go_wp2_with fail
              go_meet
              exact ⟨rfl, by simp only [Q5.out]; exact HM.out⟩
        · have h3 := HP3.out
          rw [if_neg (by omega)] at h3
          have HP3 := Lib.hid h3
          clear h3
          go_wp2_with fail
          go_meet
          exact ⟨rfl, HP3.out⟩
        · have h3 := HP3.out
          rw [if_neg (by omega)] at h3
          have HP3 := Lib.hid h3
          clear h3
          have hX := fun w => htx w p1 e2
          generalize (rdT s 1000 p1 e2).1 = t1 at *
          generalize (rdT s 1000 p1 e2).2.1 = p2 at *
          generalize (rdT s 1000 p1 e2).2.2 = e3 at *
          go_wp2_with fail
          with_reducible refine (hX _ HP3.out.rd).mono ?_
          rintro en w2 ⟨rfl, hb2, ho2⟩
          have HM := Lib.hid (HP3.out.moved hb2 ho2)
          clear hb2 ho2 x0 x1 x2 x3 y0 y1 y2 y3
          obtain ⟨x0, x1, x2, x3, y0, y1, y2, y3⟩ := HM.out.cells
          go_wp2_with fail
          go_meet
          exact ⟨rfl, HM.out.set1 _⟩
        · have h3 := HP3.out
          rw [if_neg (by omega)] at h3
          have HP3 := Lib.hid h3
          clear h3
          have hX := fun w => htx w p1 e2
          have hY := fun w => htx w (rdT s 1000 p1 e2).2.1 (rdT s 1000 p1 e2).2.2
          generalize (rdT s 1000 p1 e2).1 = t1 at *
          generalize (rdT s 1000 p1 e2).2.1 = p2 at *
          generalize (rdT s 1000 p1 e2).2.2 = e3 at *
          generalize (rdT s 1000 p2 e3).1 = t2 at *
          generalize (rdT s 1000 p2 e3).2.1 = p3 at *
          generalize (rdT s 1000 p2 e3).2.2 = e4 at *
          go_wp2_with fail
          with_reducible refine (hX _ HP3.out.rd).mono ?_
          rintro en w2 ⟨rfl, hb2, ho2⟩
          have HM := Lib.hid (HP3.out.moved hb2 ho2)
          clear hb2 ho2 x0 x1 x2 x3 y0 y1 y2 y3
          obtain ⟨x0, x1, x2, x3, y0, y1, y2, y3⟩ := HM.out.cells
          have HM1 := Lib.hid (HM.out.set1 (.string t1))
          go_wp2_with fail
          with_reducible refine (hY _ HM1.out.rd).mono ?_
          rintro en w3 ⟨rfl, hb3, ho3⟩
          have HM2 := Lib.hid (HM1.out.moved hb3 ho3)
          clear hb3 ho3 x0 x1 x2 x3 y0 y1 y2 y3
          obtain ⟨x0, x1, x2, x3, y0, y1, y2, y3⟩ := HM2.out.cells
          go_wp2_with fail
          go_meet
          exact ⟨rfl, HM2.out.set2 _⟩
        · have h3 := HP3.out
          rw [if_neg (by omega)] at h3
          have HP3 := Lib.hid h3
          clear h3
          have hX := fun w => htx w p1 e2
          generalize (rdT s 1000 p1 e2).1 = t1 at *
          generalize (rdT s 1000 p1 e2).2.1 = p2 at *
          generalize (rdT s 1000 p1 e2).2.2 = e3 at *
          rcases q with rfl | rfl
          all_goals
            go_wp2_with fail
            with_reducible refine (hX _ HP3.out.rd).mono ?_
            rintro en w2 ⟨rfl, hb2, ho2⟩
            have HM := Lib.hid (HP3.out.moved hb2 ho2)
            clear hb2 ho2 x0 x1 x2 x3 y0 y1 y2 y3
            obtain ⟨x0, x1, x2, x3, y0, y1, y2, y3⟩ := HM.out.cells
            go_wp2_with fail
            go_meet
            exact ⟨rfl, HM.out.set2 _⟩
        · have hop : 8 ≤ op := by omega
          clear q
          have h3 := HP3.out
          rw [if_pos (by omega)] at h3
          have HP3 := Lib.hid h3
          clear h3
          go_wp2_with fail
          go_meet
          exact ⟨rfl, HP3.out⟩
      case rest =>
        obtain ⟨rfl, hP⟩ := hcut
        have HP4 := Lib.hid hP
        clear hP HP3 x0 x1 x2 x3 y0 y1 y2 y3 hbt htx
        have hlen : ((List.replicate H.kids.toNat (Tr.mk 0 ⟨#[]⟩ ⟨#[]⟩ [])).length : Int) = H.kids := by have := HIN.out.2.2.1; simp; omega
        have HST : Hid (KidsAt 61 W rb (W.heap.size + 1) f s g H 0 wc) := Lib.hid (KidsAt.start HP4.out (fun he => by
          obtain ⟨a, b⟩ := HOKP.out _ he hlen
          have := HIN.out.2.2.2.2.2.2
          exact ⟨Int.le_trans b.1 b.2.1, b.2.2.1, by omega, by omega⟩) HBAD.out)
        have hkn := HIN.out.2.2.1
        have hkx := HIN.out.2.2.2.1
        clear HP4 hlen HOKP HBAD
        go_wp2_with fail
        go_loopw [7] (fun i wr => ∃ k : Nat, i = .int .i64 k ∧ KidsAt 61 W rb (W.heap.size + 1) f s g H k wr) (fun i _ => H.kids.toNat - (intOf i).toNat)
        case atStart => exact ⟨0, rfl, HST.out⟩
        case round =>
          obtain ⟨k, rfl, ks, v, p', n', e', hl, hkm, hpa, hbd, hfp, hall⟩ := hrel
          clear HST
          have HPA := Lib.hid hpa
          have HA := Lib.hid hall
          have HLN := Lib.hid hl
          have HF := Lib.hid hfp
          obtain ⟨a0, a1, a2, a3, b0, b1, b2, b3⟩ := hpa.rd.xr
          clear hall hfp hl hpa
          by_cases hgo : k < H.kids.toNat ∧ e' = 0
          · obtain ⟨hk, rfl⟩ := hgo
            have hk6 : (k : Int) < H.kids := by omega
            obtain ⟨p0, p9, n0, n9⟩ := hbd rfl
            have hf0 := HF.out (.inr rfl)
            have hc := fun w (h : Box w rb 61 (xrC s p' n' 0)) => hkid hf0 p' n' w ⟨p0, p9⟩ ⟨n0, n9⟩ h
            have HG := Lib.hid (hok p' n' p0 p9 n0)
            have HN := Lib.hid (loopG_step g (H.kids.toNat - (k + 1)) p' n')
            generalize g p' n' = r at *
            obtain ⟨A, c, hv⟩ := own_slice4 HPA.out.own
            subst hv
            have hc2 : ∀ w, Box w rb 61 (xrC s p' n' 0) → Calls Try.prog 36 #[.pointer (some ⟨rb, 0, none⟩), .int .i64 (lv - 1)] w (fun en w' => ∃ A2 c2, en = .returned (.agg #[.int .i64 r.1.op, .string r.1.name, .string r.1.value, .slice A2 r.1.kids.length c2]) ∧ TrAt (fun b => w.heap.size ≤ b) w' (f - 1) A2 r.1 ∧ Box w' rb 61 (xrC s r.2.1 r.2.2.1 r.2.2.2) ∧ Off (· = rb) w w') := hc
            obtain ⟨i0, hi, hz0, hz1, hz2⟩ := info_parts infoExpr
            have hks : ks.length ≤ 255 := by have := HLN.out; omega
            have hbxs := HPA.out.box.lt
            clear hc
            go_wp2_with fail
            clear a0 a1 a2 a3 b0 b1 b2 b3
            with_reducible refine (hc2 _ HPA.out.rd).mono ?_
            rintro en w2 ⟨A2, c2, rfl, hT2, hb2, ho2⟩
            have HM0 := Lib.hid ((HPA.out.moved hb2 ho2).alloc (.cells #[.int .i64 r.1.op, .string r.1.name, .string r.1.value, .slice A2 r.1.kids.length c2] 24))
            have HT2 := Lib.hid (hT2.off (w' := w2.alloc (.cells #[.int .i64 r.1.op, .string r.1.name, .string r.1.value, .slice A2 r.1.kids.length c2] 24)) (by simp) (fun b hb _ => Below.heap_alloc _ _ _ hb))
            obtain ⟨x0, x1, x2, x3, y0, y1, y2, y3⟩ := HM0.out.cells
            have HM := Lib.hid (HM0.out.alloc (.cells #[.int .i64 r.1.op, .string r.1.name, .string r.1.value, .slice A2 r.1.kids.length c2] 24))
            have hsz1 : (w2.alloc (.cells #[.int .i64 r.1.op, .string r.1.name, .string r.1.value, .slice A2 r.1.kids.length c2] 24)).heap.size = w2.heap.size + 1 := by simp
            have hnw := four_new (w2.alloc (.cells #[.int .i64 r.1.op, .string r.1.name, .string r.1.value, .slice A2 r.1.kids.length c2] 24)) 24 (r.1, A2, c2)
            rw [hsz1] at hnw
            have HNW := Lib.hid hnw
            have HS1 := Lib.hid hsz1
            clear hnw hsz1
            have HSZ : Hid (W.heap.size + 1 + 1 ≤ ((w2.alloc (.cells #[.int .i64 r.1.op, .string r.1.name, .string r.1.value, .slice A2 r.1.kids.length c2] 24)).alloc (.cells #[.int .i64 r.1.op, .string r.1.name, .string r.1.value, .slice A2 r.1.kids.length c2] 24)).heap.size) := Lib.hid (by have := HM.out.box.lt; omega)
            clear hb2 ho2 hT2 hc2
            go_wp2_with (at_builtin; refine wpList_append_lies _ rfl _ _ 22 rfl (W.heap.size + 1 + 1) 24 i0 (.agg #[.int .i64 0, .string ⟨#[]⟩, .string ⟨#[]⟩, .slice none 0 0]) 4 64 Try.underlying22 hi hz0 hz1 hz2 rfl (by decide) _ _ _ rfl HM.out.own ⟨w2.heap.size + 1, 0, none⟩ 1 1 [.int .i64 r.1.op, .string r.1.name, .string r.1.value, .slice A2 r.1.kids.length c2] rfl rfl HNW.out ?c2 (by decide) ?c3 ?c4 HSZ.out (w2.heap.size + 1 + 1) ?c5 ?_)
            case c2 => simp [Value.oneCell']
            case c3 => unfold maxLen; omega
            case c4 => omega
            case c5 => simp
            intro g2 cap2 w4 hown4 hgrow4 hg4 hlt4
            have HX4 : Hid (Box w4 (W.heap.size + 1) 24 #[.int .i64 H.op, .string H.name, .string H.value, .slice A ks.length c]) := Lib.hid ((hgrow4.block _ HM.out.box.lt (fun e => by have h1 := (HM.out.own.lt _ e.symm).1; omega)).trans HM.out.box)
            have h40 := (HX4.out.cell 3).trans (show _ = some (Value.slice A ks.length c) from rfl)
            have h41 := HX4.out.frozen 3
            have HKS := Lib.hid (KidsAt.step (c2 := c2) HLN.out hk hf0 HPA.out HM.out HT2.out hown4 hgrow4 (by rw [HS1.out]; exact hg4) HG.out HA.out HN.out)
            clear HM HM0 HT2 hown4 hgrow4 hg4 HX4 HNW HSZ x0 x1 x2 x3 y0 y1 y2 y3 HPA HA HN
            go_wp2_with fail
            go_roundw
            case rel => exact ⟨k + 1, by go_num, HKS.out⟩
            case measure => simp [intOf]; omega
          · have HE : Hid (R = (.mk H.op H.name H.value (ks.map (·.1)), p', n', e')) := Lib.hid (by
              rw [HR.out]
              unfold wrapG
              rw [HA.out]
              by_cases q : e' = 0
              · have hk0 : H.kids.toNat - k = 0 := by
                  by_cases c : k < H.kids.toNat
                  · exact absurd ⟨c, q⟩ hgo
                  · omega
                rw [hk0]
                simp [loopG]
              · rw [loopG_err q]
                simp)
            have hq : (¬ (k : Int) < H.kids) ∨ ((k : Int) < H.kids ∧ (e' == 0) = false) := by
              by_cases q : e' = 0
              · left; intro c; exact hgo ⟨by omega, q⟩
              · by_cases c : (k : Int) < H.kids
                · exact .inr ⟨c, by rw [beq_eq_false_iff_ne]; exact q⟩
                · exact .inl c
            obtain ⟨A, c, hv⟩ := own_slice4 HPA.out.own
            subst hv
            obtain ⟨x0, x1, x2, x3, y0, y1, y2, y3⟩ := HPA.out.cells
            obtain ⟨z0, z1, z2, z3, v0, v1, v2, v3⟩ := HPA.out.resc
            clear hgo
            have HD := Lib.hid (PartAt.done HPA.out (fun q => HF.out (.inl (by have := HLN.out; omega))) (exNode HIN.out.1 HIN.out.2.1 HIN.out.2.2.2.2.1 HIN.out.2.2.2.2.2.1 (by have := HLN.out; have := HIN.out.2.2.2.1; simp; omega)) HE.out)
            rcases hq with hq | ⟨hq, hq2⟩
            · go_wp2_with fail
              exact bodyPost_ret (rpart_result W.heap.size HD.out.1 _ rfl) rfl HD.out.2
            · go_wp2_with fail
              exact bodyPost_ret (rpart_result W.heap.size HD.out.1 _ rfl) rfl HD.out.2
theorem rexpr_c (s : ByteArray) (hs : s.size ≤ 1152921504606846976) : ∀ (f : Nat) (lv p n : Int) (rb : Nat) (W : World), f ≤ 6 → lv = (f : Int) → 0 ≤ p ∧ p ≤ s.size → 0 ≤ n ∧ n ≤ 30 → Box W rb 61 (xrC s p n 0) →
    Calls Try.prog 36 #[.pointer (some ⟨rb, 0, none⟩), .int .i64 lv] W (GotPart 61 W rb f s (partG s f p n)) := by
  intro f
  induction f with
  | zero =>
    intro lv p n rb W hf hlv hp hn h
    obtain ⟨g, _, hg⟩ := partG_is s 0 p n
    have hz : ∀ p n, (loopG (fun _ _ => (Tr.mk 0 ⟨#[]⟩ ⟨#[]⟩ [], 0, 0, 1)) (headG s (decide (0 < 0)) p n).kids.toNat (headG s (decide (0 < 0)) p n).p (headG s (decide (0 < 0)) p n).n (headG s (decide (0 < 0)) p n).e) = loopG g (headG s (decide (0 < 0)) p n).kids.toNat (headG s (decide (0 < 0)) p n).p (headG s (decide (0 < 0)) p n).n (headG s (decide (0 < 0)) p n).e := fun p n => by
      have hbad : (headG s (decide (0 < 0)) p n).e ≠ 0 := headG_bad s p n
      rw [loopG_err hbad, loopG_err hbad]
    exact rexpr_in s 0 lv p n rb W (fun _ _ => (Tr.mk 0 ⟨#[]⟩ ⟨#[]⟩ [], 0, 0, 1)) _ hs hlv hf hp hn h (fun p n _ _ _ e => absurd e (by decide)) (fun e => absurd e (by omega)) (by rw [hg, hz])
  | succ f ih =>
    intro lv p n rb W hf hlv hp hn h
    refine rexpr_in s (f + 1) lv p n rb W (partG s f) _ hs hlv hf hp hn h (fun p n h0 h1 h2 e => ?_) (fun _ p n w hp hn h => ih (lv - 1) p n rb w (by omega) (by omega) hp hn h) (by rw [show decide (0 < f + 1) = true from decide_eq_true (by omega)]; rfl)
    obtain ⟨a, b, c, _⟩ := partG_ok s f p n h0 h1 h2 e
    exact ⟨Int.le_trans a.1 a.2.1, a.2.2.1, by omega, c⟩
end Go.Proofs.Ytneholfghffpfaa
