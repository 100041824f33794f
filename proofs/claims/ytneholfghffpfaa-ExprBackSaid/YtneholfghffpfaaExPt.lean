/- expr: the program's reader of a part, by a contract. -/
import Derived.Test.YtneholfghffpfaaExRow
import Derived.Test.YtneholfghffpfaaExTx
import Derived.Deep.AppendLies
import Derived.Deep.RegionLaw
import Derived.Deep.DeepCutAuto
import Derived.LoopTactic
import Derived.Deep.CutBlock
namespace Go.Proofs.Ytneholfghffpfaa
open Go.RowKit
set_option linter.unusedVariables false
theorem part_result {w : World} (g : Nat) {v0 v1 v2 v3 : Value} (h : Box w g 24 #[v0, v1, v2, v3]) (tmps : Array Value) (ht : (tmps[4]?).getD undef = .pointer (some ⟨g, 0, none⟩)) :
    (results Try.f34 tmps).run Try.prog w = .ok (.agg #[v0, v1, v2, v3]) w := by
  have c0 := (h.cell 0).trans (show _ = some v0 from rfl)
  have c1 := (h.cell 1).trans (show _ = some v1 from rfl)
  have c2 := (h.cell 2).trans (show _ = some v2 from rfl)
  have c3 := (h.cell 3).trans (show _ = some v3 from rfl)
  simp [results, Try.results34, go_sem, ht, c0, c1, c2, c3]
set_option maxHeartbeats 4000000 in
set_option maxRecDepth 100000 in
theorem part_in (s : ByteArray) (f : Nat) (lv p n : Int) (rb : Nat) (W : World) (g : Int → Int → Tr × Int × Int × Int) (R : Tr × Int × Int × Int) (hs : s.size ≤ 1152921504606846976) (hlv : lv = 7 - (f : Int)) (hf : f ≤ 6) (hp : 0 ≤ p ∧ p ≤ s.size) (hn : 0 ≤ n ∧ n ≤ 30) (h : Box W rb 56 (xrC s p n 0))
    (hok : ∀ p n : Int, 0 ≤ p → p ≤ s.size → 0 ≤ n → (g p n).2.2.2 = 0 → 0 ≤ (g p n).2.1 ∧ (g p n).2.1 ≤ s.size ∧ 0 ≤ (g p n).2.2.1 ∧ (g p n).2.2.1 ≤ 30)
    (hkid : 0 < f → ∀ (p n : Int) w, 0 ≤ p ∧ p ≤ s.size → 0 ≤ n ∧ n ≤ 30 → Box w rb 56 (xrC s p n 0) → Calls Try.prog 34 #[.pointer (some ⟨rb, 0, none⟩), .int .i64 (lv + 1)] w (GotPart 56 w rb (f - 1) s (g p n)))
    (hR : R = wrapG (headG s (decide (0 < f)) p n) (loopG g (headG s (decide (0 < f)) p n).kids.toNat (headG s (decide (0 < f)) p n).p (headG s (decide (0 < f)) p n).n (headG s (decide (0 < f)) p n).e)) :
    Calls Try.prog 34 #[.pointer (some ⟨rb, 0, none⟩), .int .i64 lv] W (GotPart 56 W rb f s R) := by
  have hb0 := fun w (h : Box w rb 56 (xrC s p n 0)) => xbyte_c s p n 0 rb w hs hp h
  have hrl := h.lt
  obtain ⟨hn0, hn1⟩ := hn
  have hl1 : 1 ≤ lv := by omega
  have hl2 : lv ≤ 7 := by omega
  have HLF : Hid (decide (0 < f) = decide (lv ≤ 6)) := Lib.hid (by congr 1; apply propext; omega)
  have HR := Lib.hid hR
  have HL := Lib.hid hlv
  clear hR hlv hf
  have H0 : Hid (Box (W.alloc (.cells #[.int .i64 0, .string ⟨#[]⟩, .string ⟨#[]⟩, .slice none 0 0] 24)) W.heap.size 24 #[.int .i64 0, .string ⟨#[]⟩, .string ⟨#[]⟩, .slice none 0 0]) := Lib.hid (Box.new _ _ _)
  have H1 := Lib.hid (h.alloc (.cells #[.int .i64 0, .string ⟨#[]⟩, .string ⟨#[]⟩, .slice none 0 0] 24))
  have H2 : Hid (Off (· = rb) W (W.alloc (.cells #[.int .i64 0, .string ⟨#[]⟩, .string ⟨#[]⟩, .slice none 0 0] 24))) := Lib.hid ((Off.refl _ _).alloc _)
  clear h
  have HOP := Lib.hid (byteG_range s p 0)
  have HPR := Lib.hid (byteG_at (s := s) (p := p) (e := 0) hp.1 hp.2)
  have HHD := Lib.hid (headG_is s (decide (0 < f)) p n (byteG s p 0).1 (byteG s p 0).2.1 (byteG s p 0).2.2 _ rfl rfl)
  have HBAD : Hid (f = 0 → (headG s (decide (0 < f)) p n).e ≠ 0) := Lib.hid (fun hf => by rw [show decide (0 < f) = false from decide_eq_false (by omega)]; exact headG_bad s p n)
  have HIN := Lib.hid (headG_in s (decide (0 < f)) p n)
  have HOKP := Lib.hid (fun ks a b => headG_ok (s := s) (p := p) (n := n) (ok := decide (0 < f)) hp.1 hp.2 a ks b)
  generalize headG s (decide (0 < f)) p n = H at *
  go_enter Try.func34, Try.ntmps34
  go_wp2_with fail
  with_reducible refine (hb0 _ H1.out).mono ?_
  rintro en w1 ⟨rfl, hb1, ho1⟩
  have HP : Hid (PartAt 56 W rb w1.heap.size (f - 1) s (byteG s p 0).2.1 n (byteG s p 0).2.2 (.int .i64 (byteG s p 0).1) (.string ⟨#[]⟩) (.string ⟨#[]⟩) (.slice none 0 0) [] (w1.alloc (.cells #[.int .i64 (byteG s p 0).1, .string ⟨#[]⟩, .string ⟨#[]⟩, .slice none 0 0] 24))) :=
    Lib.hid (PartAt.start (hb1.alloc _) hrl ((H0.out.off ho1 (fun e => by have e2 : W.heap.size = rb := e; omega)).alloc _) (Box.new _ _ _) (by have := ho1.size; simp at this; omega) ((H2.out.trans ho1 (fun _ _ e => e)).alloc _))
  have HBX : Hid (rb ≠ w1.heap.size) := Lib.hid (by have := hb1.lt; omega)
  clear hb1 ho1 H0 H1 H2 hb0
  generalize (byteG s p 0).1 = op at *
  generalize (byteG s p 0).2.1 = p1 at *
  generalize (byteG s p 0).2.2 = e1 at *
  have hd := fun w (h : Box w rb 56 (xrC s p1 (n + 1) e1)) r => xdem_c s p1 (n + 1) e1 r rb w h
  obtain ⟨x0, x1, x2, x3, y0, y1, y2, y3⟩ := HP.out.rd.xr
  have HP2 : Hid (PartAt 56 W rb w1.heap.size (f - 1) s p1 (n + 1) e1 (.int .i64 op) (.string ⟨#[]⟩) (.string ⟨#[]⟩) (.slice none 0 0) [] ((w1.alloc (.cells #[.int .i64 op, .string ⟨#[]⟩, .string ⟨#[]⟩, .slice none 0 0] 24)).setCell ⟨rb, 2, none⟩ (.int .i64 (n + 1)))) := Lib.hid (HP.out.setr 2 _ rfl)
  have HQ : Hid ((n + 1 ≤ 30 ∧ lv ≤ 6 ∧ (decide (n + 1 ≤ 30) && decide (0 < f)) = true) ∨ (n + 1 ≤ 30 ∧ decide (lv ≤ 6) = false ∧ (decide (n + 1 ≤ 30) && decide (0 < f)) = false) ∨ (decide (n + 1 ≤ 30) = false ∧ (decide (n + 1 ≤ 30) && decide (0 < f)) = false)) := Lib.hid (by
    rw [HLF.out]
    by_cases q1 : n + 1 ≤ 30
    · by_cases q2 : lv ≤ 6
      · exact .inl ⟨q1, q2, by rw [decide_eq_true q1, decide_eq_true q2]; rfl⟩
      · exact .inr (.inl ⟨q1, decide_eq_false q2, by rw [decide_eq_true q1, decide_eq_false q2]; rfl⟩)
    · exact .inr (.inr ⟨decide_eq_false q1, by rw [decide_eq_false q1]; rfl⟩))
  go_upto_region 3 with fail
  obtain ⟨z0, z1, z2, z3, v0, v1, v2, v3⟩ := HP2.out.rd.xr
  go_cut [] (fun w => PartAt 56 W rb w1.heap.size (f - 1) s p1 (n + 1) (demG e1 (decide (n + 1 ≤ 30) && decide (0 < f))) (.int .i64 op) (.string ⟨#[]⟩) (.string ⟨#[]⟩) (.slice none 0 0) [] w)
  case first =>
    generalize (decide (n + 1 ≤ 30) && decide (0 < f)) = r at *
    rcases HQ.out with ⟨q1, q2, rfl⟩ | ⟨q1, q2, rfl⟩ | ⟨q1, rfl⟩
    all_goals
      go_wp2_with fail
      with_reducible refine (hd _ HP2.out.rd _).mono ?_
      rintro en w2 ⟨rfl, hb2, ho2⟩
      have HM := Lib.hid (HP2.out.moved hb2 ho2)
      clear hb2 ho2
      go_wp2_with fail
      go_meet
      exact HM.out
  case rest =>
    have HP3 := Lib.hid hcut
    clear hcut HP2 HP HQ hd x0 x1 x2 x3 y0 y1 y2 y3 z0 z1 z2 z3 v0 v1 v2 v3
    generalize demG e1 (decide (n + 1 ≤ 30) && decide (0 < f)) = e2 at *
    have hd := fun w k e r (h : Box w rb 56 (xrC s k (n + 1) e)) => xdem_c s k (n + 1) e r rb w h
    have hbt := fun w (h : Box w rb 56 (xrC s p1 (n + 1) e2)) => xbyte_c s p1 (n + 1) e2 rb w hs HPR.out h
    have htx := fun w q e (h : Box w rb 56 (xrC s q (n + 1) e)) => xtext_c s q (n + 1) e rb w hs h
    obtain ⟨x0, x1, x2, x3, y0, y1, y2, y3⟩ := HP3.out.cells
    go_upto_block 0 with fail
    go_cut [6] (fun k w => k = .int .i64 H.kids ∧ PartAt 56 W rb w1.heap.size (f - 1) s H.p H.n H.e (.int .i64 H.op) (.string H.name) (.string H.value) (.slice none 0 0) [] w)
    case first =>
      obtain ⟨hop0, hop1⟩ := HOP.out
      rcases HHD.out with ⟨rfl, rfl⟩ | ⟨q, rfl⟩ | ⟨rfl, rfl⟩ | ⟨rfl, rfl⟩ | ⟨rfl, rfl⟩ | ⟨q, rfl⟩ | ⟨q, rfl⟩
      · go_wp2_with fail
        go_meet
        exact ⟨rfl, HP3.out⟩
      · have HBR := Lib.hid (byteG_range s p1 e2)
        generalize (byteG s p1 e2).1 = k at *
        generalize (byteG s p1 e2).2.1 = p2 at *
        generalize (byteG s p1 e2).2.2 = e3 at *
        have HQ : Hid ((2 ≤ k ∧ k ≤ 30 ∧ manyK k = true) ∨ (2 ≤ k ∧ decide (k ≤ 30) = false ∧ manyK k = false) ∨ (decide (2 ≤ k) = false ∧ manyK k = false)) := Lib.hid (by
          unfold manyK
          by_cases q1 : 2 ≤ k
          · by_cases q2 : k ≤ 30
            · exact .inl ⟨q1, q2, by rw [decide_eq_true q1, decide_eq_true q2]; rfl⟩
            · exact .inr (.inl ⟨q1, decide_eq_false q2, by rw [decide_eq_true q1, decide_eq_false q2]; rfl⟩)
          · exact .inr (.inr ⟨decide_eq_false q1, by rw [decide_eq_false q1]; rfl⟩))
        generalize manyK k = m at *
        rcases q with rfl | rfl
        all_goals
          go_wp2_with fail
          with_reducible refine (hbt _ HP3.out.rd).mono ?_
          rintro en w2 ⟨rfl, hb2, ho2⟩
          have HM := Lib.hid (HP3.out.moved hb2 ho2)
          clear hb2 ho2 x0 x1 x2 x3 y0 y1 y2 y3
          obtain ⟨x0, x1, x2, x3, y0, y1, y2, y3⟩ := HM.out.cells
          rcases HQ.out with ⟨q1, q2, rfl⟩ | ⟨q1, q2, rfl⟩ | ⟨q1, rfl⟩
          all_goals
            go_wp2_with fail
            with_reducible refine (hd _ _ _ _ HM.out.rd).mono ?_
            rintro en w3 ⟨rfl, hb3, ho3⟩
            have HM2 := Lib.hid (HM.out.moved hb3 ho3)
            clear hb3 ho3
            go_wp2_with fail
            go_meet
            exact ⟨rfl, HM2.out⟩
      · go_wp2_with fail
        go_meet
        exact ⟨rfl, HP3.out⟩
      · have hX := fun w => htx w p1 e2
        generalize (rdT s 1000 p1 e2).1 = t1 at *
        generalize (rdT s 1000 p1 e2).2.1 = p2 at *
        generalize (rdT s 1000 p1 e2).2.2 = e3 at *
        go_wp2_with fail
        with_reducible refine (hX _ HP3.out.rd).mono ?_
        rintro en w2 ⟨rfl, hb2, ho2⟩
        have HM := Lib.hid (HP3.out.moved hb2 ho2)
        clear hb2 ho2 x0 x1 x2 x3 y0 y1 y2 y3
        obtain ⟨x0, x1, x2, x3, y0, y1, y2, y3⟩ := HM.out.cells
        go_wp2_with fail
        go_meet
        exact ⟨rfl, HM.out.set1 _⟩
      · have hX := fun w => htx w p1 e2
        have hY := fun w => htx w (rdT s 1000 p1 e2).2.1 (rdT s 1000 p1 e2).2.2
        generalize (rdT s 1000 p1 e2).1 = t1 at *
        generalize (rdT s 1000 p1 e2).2.1 = p2 at *
        generalize (rdT s 1000 p1 e2).2.2 = e3 at *
        generalize (rdT s 1000 p2 e3).1 = t2 at *
        generalize (rdT s 1000 p2 e3).2.1 = p3 at *
        generalize (rdT s 1000 p2 e3).2.2 = e4 at *
        go_wp2_with fail
        with_reducible refine (hX _ HP3.out.rd).mono ?_
        rintro en w2 ⟨rfl, hb2, ho2⟩
        have HM := Lib.hid (HP3.out.moved hb2 ho2)
        clear hb2 ho2 x0 x1 x2 x3 y0 y1 y2 y3
        obtain ⟨x0, x1, x2, x3, y0, y1, y2, y3⟩ := HM.out.cells
        have HM1 := Lib.hid (HM.out.set1 (.string t1))
        go_wp2_with fail
        with_reducible refine (hY _ HM1.out.rd).mono ?_
        rintro en w3 ⟨rfl, hb3, ho3⟩
        have HM2 := Lib.hid (HM1.out.moved hb3 ho3)
        clear hb3 ho3 x0 x1 x2 x3 y0 y1 y2 y3
        obtain ⟨x0, x1, x2, x3, y0, y1, y2, y3⟩ := HM2.out.cells
        go_wp2_with fail
        go_meet
        exact ⟨rfl, HM2.out.set2 _⟩
      · have hX := fun w => htx w p1 e2
        generalize (rdT s 1000 p1 e2).1 = t1 at *
        generalize (rdT s 1000 p1 e2).2.1 = p2 at *
        generalize (rdT s 1000 p1 e2).2.2 = e3 at *
        rcases q with rfl | rfl
        all_goals
          go_wp2_with fail
          with_reducible refine (hX _ HP3.out.rd).mono ?_
          rintro en w2 ⟨rfl, hb2, ho2⟩
          have HM := Lib.hid (HP3.out.moved hb2 ho2)
          clear hb2 ho2 x0 x1 x2 x3 y0 y1 y2 y3
          obtain ⟨x0, x1, x2, x3, y0, y1, y2, y3⟩ := HM.out.cells
          go_wp2_with fail
          go_meet
          exact ⟨rfl, HM.out.set2 _⟩
      · have hop : 8 ≤ op := by omega
        clear q
        go_wp2_with fail
        with_reducible refine (hd _ _ _ _ HP3.out.rd).mono ?_
        rintro en w2 ⟨rfl, hb2, ho2⟩
        have HM := Lib.hid (HP3.out.moved hb2 ho2)
        clear hb2 ho2
        go_wp2_with fail
        go_meet
        exact ⟨rfl, HM.out⟩
    case rest =>
      obtain ⟨rfl, hP⟩ := hcut
      have HP4 := Lib.hid hP
      clear hP HP3 x0 x1 x2 x3 y0 y1 y2 y3 hd hbt htx
      have hlen : ((List.replicate H.kids.toNat (Tr.mk 0 ⟨#[]⟩ ⟨#[]⟩ [])).length : Int) = H.kids := by have := HIN.out.2.2.1; simp; omega
      have HST : Hid (KidsAt 56 W rb w1.heap.size f s g H 0 wc) := Lib.hid (KidsAt.start HP4.out (fun he => by
        obtain ⟨a, b⟩ := HOKP.out _ he hlen
        have := HIN.out.2.2.2.2.2.2
        exact ⟨Int.le_trans b.1 b.2.1, b.2.2.1, by omega, by omega⟩) HBAD.out)
      have hkn := HIN.out.2.2.1
      have hkx := HIN.out.2.2.2.1
      clear HP4 hlen HOKP HBAD
      go_wp2_with fail
      go_loopw [7] (fun i wr => ∃ k : Nat, i = .int .i64 k ∧ KidsAt 56 W rb w1.heap.size f s g H k wr) (fun i _ => H.kids.toNat - (intOf i).toNat)
      case atStart => exact ⟨0, rfl, HST.out⟩
      case round =>
        obtain ⟨k, rfl, ks, v, p', n', e', hl, hkm, hpa, hbd, hfp, hall⟩ := hrel
        clear HST
        have HPA := Lib.hid hpa
        have HA := Lib.hid hall
        have HLN := Lib.hid hl
        have HF := Lib.hid hfp
        obtain ⟨a0, a1, a2, a3, b0, b1, b2, b3⟩ := hpa.rd.xr
        clear hall hfp hl hpa
        by_cases hgo : k < H.kids.toNat ∧ e' = 0
        · obtain ⟨hk, rfl⟩ := hgo
          have hk6 : (k : Int) < H.kids := by omega
          obtain ⟨p0, p9, n0, n9⟩ := hbd rfl
          have hf0 := HF.out (.inr rfl)
          have hc := fun w (h : Box w rb 56 (xrC s p' n' 0)) => hkid hf0 p' n' w ⟨p0, p9⟩ ⟨n0, n9⟩ h
          have HG := Lib.hid (hok p' n' p0 p9 n0)
          have HN := Lib.hid (loopG_step g (H.kids.toNat - (k + 1)) p' n')
          generalize g p' n' = r at *
          obtain ⟨A, c, hv⟩ := own_slice4 HPA.out.own
          subst hv
          have hc2 : ∀ w, Box w rb 56 (xrC s p' n' 0) → Calls Try.prog 34 #[.pointer (some ⟨rb, 0, none⟩), .int .i64 (lv + 1)] w (fun en w' => ∃ A2 c2, en = .returned (.agg #[.int .i64 r.1.op, .string r.1.name, .string r.1.value, .slice A2 r.1.kids.length c2]) ∧ TrAt (fun b => w.heap.size ≤ b) w' (f - 1) A2 r.1 ∧ Box w' rb 56 (xrC s r.2.1 r.2.2.1 r.2.2.2) ∧ Off (· = rb) w w') := hc
          have hwl : lv + 1 = IntKind.i64.wrap (lv + 1) := by rw [IntKind.wrap_i64]; omega
          rw [hwl] at hc2
          clear hwl
          obtain ⟨x0, x1, x2, x3, y0, y1, y2, y3⟩ := HPA.out.drew.cells
          obtain ⟨i0, hi, hz0, hz1, hz2⟩ := info_parts infoExpr
          have hks : ks.length ≤ 255 := by have := HLN.out; omega
          have hbxs := HPA.out.box.lt
          clear hc
          go_wp2_with fail
          clear a0 a1 a2 a3 b0 b1 b2 b3
          go_region_law (first | (refine step_append_lies (w2.alloc (.cells #[.int .i64 r.1.op, .string r.1.name, .string r.1.value, .slice A2 r.1.kids.length c2] 24)) rfl (.tmp 79) (.tmp 84) 22 rfl (w1.heap.size + 1) 24 i0 (.agg #[.int .i64 0, .string ⟨#[]⟩, .string ⟨#[]⟩, .slice none 0 0]) 4 64 Try.underlying22 hi hz0 hz1 hz2 rfl (by decide) (.slice A ks.length c) ks.length (kidCells ks) (by simp [Act.eval]) HM.out.own ⟨w2.heap.size, 0, none⟩ 1 1 [.int .i64 r.1.op, .string r.1.name, .string r.1.value, .slice A2 r.1.kids.length c2] (by simp [Act.eval]) rfl HNW.out (by simp [Value.oneCell']) (by decide) (by unfold maxLen; omega) (by omega) HSZ.out (w2.heap.size + 1) (by simp) ?_; intro g2 cap2 w4 hown4 hgrow4 hg4 hlt4; have HO4 := Lib.hid hown4; have HG4 := Lib.hid hgrow4; have HL4 := Lib.hid hg4; have HX4 : Hid (Box w4 w1.heap.size 24 #[.int .i64 H.op, .string H.name, .string H.value, .slice A ks.length c]) := Lib.hid ((hgrow4.block _ HM.out.box.lt (fun e => by have h1 := (HM.out.own.lt _ e.symm).1; omega)).trans HM.out.box); clear hown4 hgrow4 hg4; have h40 := (HX4.out.cell 3).trans (show _ = some (Value.slice A ks.length c) from rfl); have h41 := HX4.out.frozen 3) | (go_simp; go_at_call 34; (with_reducible refine (hc2 _ HPA.out.rd.drew).mono ?_); rintro en w2 ⟨A2, c2, rfl, hT2, hb2, ho2⟩; have HM0 := Lib.hid (HPA.out.drew.moved hb2 ho2); have HT2 := Lib.hid hT2; (obtain ⟨k0, k1, k2, k3, l0, l1, l2, l3⟩ := HM0.out.cells); have HM := Lib.hid (HM0.out.alloc (.cells #[.int .i64 r.1.op, .string r.1.name, .string r.1.value, .slice A2 r.1.kids.length c2] 24)); (obtain ⟨m0, m1, m2, m3, o0, o1, o2, o3⟩ := HM.out.cells); have HNW := Lib.hid (four_new w2 24 (r.1, A2, c2)); have HSZ : Hid (w1.heap.size + 1 ≤ (w2.alloc (.cells #[.int .i64 r.1.op, .string r.1.name, .string r.1.value, .slice A2 r.1.kids.length c2] 24)).heap.size) := Lib.hid (by have := HM0.out.box.lt; simp; omega); clear hb2 ho2 hT2))
          all_goals
            have HKS := Lib.hid (KidsAt.step (c2 := c2) HLN.out hk hf0 HPA.out HM.out HT2.out HO4.out HG4.out HL4.out HG.out HA.out HN.out)
            clear HM HM0 HT2 HO4 HG4 HL4 HX4 h40 h41 HNW HSZ m0 m1 m2 m3 o0 o1 o2 o3 k0 k1 k2 k3 l0 l1 l2 l3 x0 x1 x2 x3 y0 y1 y2 y3 hc2 HPA HA HN
            go_wp2_with fail
            go_roundw
            case rel => exact ⟨k + 1, by go_num, HKS.out⟩
            case measure => simp [intOf]; omega
        · have HE : Hid (R = (.mk H.op H.name H.value (ks.map (·.1)), p', n', e')) := Lib.hid (by
            rw [HR.out]
            unfold wrapG
            rw [HA.out]
            by_cases q : e' = 0
            · have hk0 : H.kids.toNat - k = 0 := by
                by_cases c : k < H.kids.toNat
                · exact absurd ⟨c, q⟩ hgo
                · omega
              rw [hk0]
              simp [loopG]
            · rw [loopG_err q]
              simp)
          have hq : (¬ (k : Int) < H.kids) ∨ ((k : Int) < H.kids ∧ (e' == 0) = false) := by
            by_cases q : e' = 0
            · left; intro c; exact hgo ⟨by omega, q⟩
            · by_cases c : (k : Int) < H.kids
              · exact .inr ⟨c, by rw [beq_eq_false_iff_ne]; exact q⟩
              · exact .inl c
          obtain ⟨A, c, hv⟩ := own_slice4 HPA.out.own
          subst hv
          obtain ⟨x0, x1, x2, x3, y0, y1, y2, y3⟩ := HPA.out.cells
          obtain ⟨z0, z1, z2, z3, v0, v1, v2, v3⟩ := HPA.out.resc
          clear hgo
          have HD := Lib.hid (PartAt.done HPA.out (fun q => HF.out (.inl (by have := HLN.out; omega))) (exNode HIN.out.1 HIN.out.2.1 HIN.out.2.2.2.2.1 HIN.out.2.2.2.2.2.1 (by have := HLN.out; have := HIN.out.2.2.2.1; simp; omega)) HE.out)
          rcases hq with hq | ⟨hq, hq2⟩
          · go_wp2_with fail
            exact bodyPost_ret (part_result W.heap.size HD.out.1 _ rfl) rfl HD.out.2
          · go_wp2_with fail
            exact bodyPost_ret (part_result W.heap.size HD.out.1 _ rfl) rfl HD.out.2
theorem part_c (s : ByteArray) (hs : s.size ≤ 1152921504606846976) : ∀ (f : Nat) (lv p n : Int) (rb : Nat) (W : World), f ≤ 6 → lv = 7 - (f : Int) → 0 ≤ p ∧ p ≤ s.size → 0 ≤ n ∧ n ≤ 30 → Box W rb 56 (xrC s p n 0) →
    Calls Try.prog 34 #[.pointer (some ⟨rb, 0, none⟩), .int .i64 lv] W (GotPart 56 W rb f s (partG s f p n)) := by
  intro f
  induction f with
  | zero =>
    intro lv p n rb W hf hlv hp hn h
    obtain ⟨g, _, hg⟩ := partG_is s 0 p n
    have hz : ∀ p n, (loopG (fun _ _ => (Tr.mk 0 ⟨#[]⟩ ⟨#[]⟩ [], 0, 0, 1)) (headG s (decide (0 < 0)) p n).kids.toNat (headG s (decide (0 < 0)) p n).p (headG s (decide (0 < 0)) p n).n (headG s (decide (0 < 0)) p n).e) = loopG g (headG s (decide (0 < 0)) p n).kids.toNat (headG s (decide (0 < 0)) p n).p (headG s (decide (0 < 0)) p n).n (headG s (decide (0 < 0)) p n).e := fun p n => by
      have hbad : (headG s (decide (0 < 0)) p n).e ≠ 0 := headG_bad s p n
      rw [loopG_err hbad, loopG_err hbad]
    exact part_in s 0 lv p n rb W (fun _ _ => (Tr.mk 0 ⟨#[]⟩ ⟨#[]⟩ [], 0, 0, 1)) _ hs hlv hf hp hn h (fun p n _ _ _ e => absurd e (by decide)) (fun e => absurd e (by omega)) (by rw [hg, hz])
  | succ f ih =>
    intro lv p n rb W hf hlv hp hn h
    refine part_in s (f + 1) lv p n rb W (partG s f) _ hs hlv hf hp hn h (fun p n h0 h1 h2 e => ?_) (fun _ p n w hp hn h => ih (lv + 1) p n rb w (by omega) (by omega) hp hn h) (by rw [show decide (0 < f + 1) = true from decide_eq_true (by omega)]; rfl)
    obtain ⟨a, b, c, _⟩ := partG_ok s f p n h0 h1 h2 e
    exact ⟨Int.le_trans a.1 a.2.1, a.2.2.1, by omega, c⟩
end Go.Proofs.Ytneholfghffpfaa
