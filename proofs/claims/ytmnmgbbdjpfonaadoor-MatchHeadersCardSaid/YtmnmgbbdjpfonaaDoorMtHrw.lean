/- match: the law MatchHeaders, walked. Condition: the tables of utf8. -/
import Derived.Test.YtmnmgbbdjpfonaaDoorMtHr
import Derived.Deep.RegionHeld3
namespace Go.Proofs.YtmnmgbbdjpfonaaDoor
open Go.RowKit
set_option linter.unusedVariables false
theorem rb_later {W w w' : World} {p0 p1 : Int} {b g : Bool} {k0 v0 : ByteArray} {A : Option Addr} {c l : Nat} (h : w.cell? ⟨W.heap.size, 0, none⟩ = some (.int .i64 p0) ∧ w.cell? ⟨W.heap.size, 1, none⟩ = some (.int .i64 p1) ∧ w.cell? ⟨W.heap.size, 2, none⟩ = some (.bool b) ∧ w.cell? ⟨W.heap.size, 3, none⟩ = some (.string k0) ∧ w.cell? ⟨W.heap.size, 4, none⟩ = some (.bool g) ∧ w.cell? ⟨W.heap.size, 5, none⟩ = some (.string v0) ∧ w.cell? ⟨W.heap.size, 6, none⟩ = some (.slice A l c) ∧ W.heap.size < w.heap.size) (hb : Below w.heap.size w w') : w'.cell? ⟨W.heap.size, 0, none⟩ = some (.int .i64 p0) ∧ w'.cell? ⟨W.heap.size, 1, none⟩ = some (.int .i64 p1) ∧ w'.cell? ⟨W.heap.size, 2, none⟩ = some (.bool b) ∧ w'.cell? ⟨W.heap.size, 3, none⟩ = some (.string k0) ∧ w'.cell? ⟨W.heap.size, 4, none⟩ = some (.bool g) ∧ w'.cell? ⟨W.heap.size, 5, none⟩ = some (.string v0) ∧ w'.cell? ⟨W.heap.size, 6, none⟩ = some (.slice A l c) ∧ W.heap.size < w'.heap.size := by
  obtain ⟨h1, h2, h3, h4, h5, h6, h7, hl⟩ := h
  have k := fun i => hb.cell (p := ⟨W.heap.size, i, none⟩) hl
  exact ⟨(k _).trans h1, (k _).trans h2, (k _).trans h3, (k _).trans h4, (k _).trans h5, (k _).trans h6, (k _).trans h7, Nat.lt_of_lt_of_le hl hb.size⟩
theorem neg_mod (a : Int) (h : a < 0) (hl : -9223372036854775808 ≤ a) : ∃ p : Nat, wrap64 (-wrap64 (a + 1)) = (p : Int) := ⟨(-(a + 1)).toNat, by unfold wrap64; omega⟩
set_option maxHeartbeats 8000000 in
set_option maxRecDepth 100000 in
theorem headers_walk (r : Rec) (A : Option Addr) (c : Nat) (a1 a2 : Int) (W : World) (hR : RIn W r A c) (hS : RSmall r) (w1 : -9223372036854775808 ≤ a1 ∧ a1 < 9223372036854775808) (w2 : -9223372036854775808 ≤ a2 ∧ a2 < 9223372036854775808) (hTb : Tabs W) :
    Calls Tryd.prog 6 #[recV r A c, .int .i64 a1, .int .i64 a2] W (Yes W) := by
  have ck := fun w (h : RBox W r A c w) => rcheck_c r A c w h.rin
  have cl := fun w (h : Tabs w) => live8_c w h
  have HB := Lib.hid (RBox.start hR hTb)
  have hc : ∀ w, RBox W r A c w → _ := fun w h => rec_cells h.box
  obtain ⟨y0, y1, y2, y3, y4, y5, y6⟩ := hc _ HB.out
  obtain ⟨w11, w12⟩ := w1
  obtain ⟨w21, w22⟩ := w2
  by_cases h20 : (r.heads.length : Int) ≤ 20
  · have hre : recE r = 0 ∨ recE r = 1 := by unfold recE; split <;> simp
    rcases hre with hr | hr
    · obtain ⟨hkz, hhz⟩ := ok_parts hr
      rw [hr] at ck
      have chd := fun n w (h : RBox W r A c w) => rhead_c r A c n w h.rin
      have cpr : ∀ (vl : ByteArray), 1 ≤ vl.size → vl.size ≤ 1000 → ∀ w (h : RBox W r A c w), Calls Tryd.prog 11 #[.agg #[.int .i64 6, .string ⟨#[]⟩, .string vl, .slice none 0 0], recV r A c] w (Good w (Told (!r.bare && preB r.key vl, 0))) := fun vl h1 h2 w h => by
        have := pmatch_c (L4 6 ⟨#[]⟩ vl) none 0 r A c w (L4_at 6 _ _ (by decide) (by decide) (by decide) h2 w none) h.rin h.tabs
        rw [matchG_is (L4_ok (pre_part (by unfold smB; rw [decide_eq_true h1, decide_eq_true h2]; rfl))) hr, pre_lets] at this
        exact this
      have chs : ∀ (k : Nat) (hk : k < r.heads.length) w (h : RBox W r A c w), Calls Tryd.prog 11 #[.agg #[.int .i64 4, .string (r.heads[k]).1, .string ⟨#[]⟩, .slice none 0 0], recV r A c] w (Good w (Told (true, 0))) := fun k hk w h => by
        have hz := hhz _ (List.getElem_mem hk)
        have := pmatch_c (L4 4 (r.heads[k]).1 ⟨#[]⟩) none 0 r A c w (L4_at 4 _ _ (by decide) (by decide) hz.2.1 (by decide) w none) h.rin h.tabs
        rw [matchG_is (L4_ok (has_part (by unfold smB; rw [decide_eq_true hz.1, decide_eq_true hz.2.1]; rfl))) hr, has_lets, (header_there hk).1] at this
        exact this
      have cis : ∀ (k : Nat) (hk : k < r.heads.length) w (h : RBox W r A c w), Calls Tryd.prog 11 #[.agg #[.int .i64 5, .string (r.heads[k]).1, .string (headerG r.heads (r.heads[k]).1).1, .slice none 0 0], recV r A c] w (Good w (Told (true, 0))) := fun k hk w h => by
        have hz := hhz _ (List.getElem_mem hk)
        obtain ⟨x, hx, e⟩ := (header_there hk).2
        have hv : (headerG r.heads (r.heads[k]).1).1.size ≤ 1000 := by rw [e]; exact (hhz x hx).2.2
        have := pmatch_c (L4 5 (r.heads[k]).1 (headerG r.heads (r.heads[k]).1).1) none 0 r A c w (L4_at 5 _ _ (by decide) (by decide) hz.2.1 hv w none) h.rin h.tabs
        rw [matchG_is (L4_ok (is_part (by unfold smB; rw [decide_eq_true hz.1, decide_eq_true hz.2.1]; rfl) hv)) hr, is_lets, (header_there hk).1] at this
        rw [decide_eq_true rfl] at this
        exact this
      clear hR hTb hr hhz
      unfold recV recC Yes Told Sb at *
      obtain ⟨place, time, bare, key, gone, value, heads⟩ := r
      simp only at *
      by_cases hl0 : 0 < heads.length
      · have hl1 : (0 : Int) < (heads.length : Int) := by omega
        by_cases hn : a1 < 0
        · obtain ⟨p, hp⟩ := neg_mod a1 hn w11
          have hjj : p % heads.length < heads.length := Nat.mod_lt _ hl0
          obtain ⟨j, hjd⟩ : ∃ j, j = p % heads.length := ⟨_, rfl⟩
          rw [← hjd] at hjj
          have hj : j < heads.length := hjj
          have htm : (p : Int).tmod (heads.length : Int) = (j : Int) := by rw [hjd]; exact Int.ofNat_tmod p heads.length ▸ rfl
          have hj0 : (j : Int) < (heads.length : Int) := by omega
          clear hjd hjj w11 w12
          cases bare with
          | true =>
            go_enter Tryd.func6, Tryd.ntmps6
            go_wp2_with fail
            with_reducible refine (ck _ HB.out).mono ?_
            rintro en w1 ⟨rfl, hb1⟩
            have HB1 := Lib.hid (HB.out.later hb1)
            clear hb1 y0 y1 y2 y3 y4 y5 y6 HB ck
            obtain ⟨y0, y1, y2, y3, y4, y5, y6⟩ := hc _ HB1.out
            obtain ⟨b, off, hA, hblt, m0, m1⟩ := HB1.out.rin.heads.at_ hj
            subst hA
            go_wp2_with fail
            go_quiet (fail)
            have HB2 := Lib.hid (HB1.out.later (w' := w1.drewN nq) ⟨rfl, rfl, rfl, Nat.le_refl _, fun _ _ => rfl⟩)
            clear y0 y1 y2 y3 y4 y5 y6 m0 m1 HB1
            generalize w1.drewN nq = w2 at *
            obtain ⟨y0, y1, y2, y3, y4, y5, y6⟩ := hc _ HB2.out
            go_wp2_with fail
            with_reducible refine (chd _ _ HB2.out).mono ?_
            rintro en w3 ⟨rfl, hb3⟩
            have HB3 := Lib.hid (HB2.out.later hb3)
            clear hb3 y0 y1 y2 y3 y4 y5 y6 HB2 chd
            obtain ⟨y0, y1, y2, y3, y4, y5, y6⟩ := hc _ HB3.out
            go_wp2_with fail
            with_reducible refine (chs _ hj _ HB3.out).mono ?_
            rintro en w4 ⟨rfl, hb4⟩
            have HB4 := Lib.hid (HB3.out.later hb4)
            clear hb4 y0 y1 y2 y3 y4 y5 y6 HB3 chs
            obtain ⟨y0, y1, y2, y3, y4, y5, y6⟩ := hc _ HB4.out
            go_wp2_with fail
            with_reducible refine (cis _ hj _ HB4.out).mono ?_
            rintro en w5 ⟨rfl, hb5⟩
            have HB5 := Lib.hid (HB4.out.later hb5)
            clear hb5 y0 y1 y2 y3 y4 y5 y6 HB4 cis
            obtain ⟨y0, y1, y2, y3, y4, y5, y6⟩ := hc _ HB5.out
            go_wp2_with fail
            with_reducible refine (cl _ HB5.out.tabs).mono ?_
            rintro en w6 ⟨rfl, hb6⟩
            have hb := (HB5.out.later hb6).bel
            clear hb6 cl HB5
            go_wp2_with fail
            go_ret
            exact ⟨rfl, hb⟩
          | false =>
            by_cases hn1 : a2 < 1
            · go_enter Tryd.func6, Tryd.ntmps6
              go_wp2_with fail
              with_reducible refine (ck _ HB.out).mono ?_
              rintro en w1 ⟨rfl, hb1⟩
              have HB1 := Lib.hid (HB.out.later hb1)
              clear hb1 y0 y1 y2 y3 y4 y5 y6 HB ck
              obtain ⟨y0, y1, y2, y3, y4, y5, y6⟩ := hc _ HB1.out
              obtain ⟨b, off, hA, hblt, m0, m1⟩ := HB1.out.rin.heads.at_ hj
              subst hA
              go_wp2_with fail
              go_quiet (fail)
              have HB2 := Lib.hid (HB1.out.later (w' := w1.drewN nq) ⟨rfl, rfl, rfl, Nat.le_refl _, fun _ _ => rfl⟩)
              clear y0 y1 y2 y3 y4 y5 y6 m0 m1 HB1
              generalize w1.drewN nq = w2 at *
              obtain ⟨y0, y1, y2, y3, y4, y5, y6⟩ := hc _ HB2.out
              go_wp2_with fail
              with_reducible refine (chd _ _ HB2.out).mono ?_
              rintro en w3 ⟨rfl, hb3⟩
              have HB3 := Lib.hid (HB2.out.later hb3)
              clear hb3 y0 y1 y2 y3 y4 y5 y6 HB2 chd
              obtain ⟨y0, y1, y2, y3, y4, y5, y6⟩ := hc _ HB3.out
              go_wp2_with fail
              with_reducible refine (chs _ hj _ HB3.out).mono ?_
              rintro en w4 ⟨rfl, hb4⟩
              have HB4 := Lib.hid (HB3.out.later hb4)
              clear hb4 y0 y1 y2 y3 y4 y5 y6 HB3 chs
              obtain ⟨y0, y1, y2, y3, y4, y5, y6⟩ := hc _ HB4.out
              go_wp2_with fail
              with_reducible refine (cis _ hj _ HB4.out).mono ?_
              rintro en w5 ⟨rfl, hb5⟩
              have HB5 := Lib.hid (HB4.out.later hb5)
              clear hb5 y0 y1 y2 y3 y4 y5 y6 HB4 cis
              obtain ⟨y0, y1, y2, y3, y4, y5, y6⟩ := hc _ HB5.out
              go_wp2_with fail
              with_reducible refine (cl _ HB5.out.tabs).mono ?_
              rintro en w6 ⟨rfl, hb6⟩
              have hb := (HB5.out.later hb6).bel
              clear hb6 cl HB5
              go_wp2_with fail
              go_ret
              exact ⟨rfl, hb⟩
            · by_cases hn2 : (key.size : Int) < a2
              · go_enter Tryd.func6, Tryd.ntmps6
                go_wp2_with fail
                with_reducible refine (ck _ HB.out).mono ?_
                rintro en w1 ⟨rfl, hb1⟩
                have HB1 := Lib.hid (HB.out.later hb1)
                clear hb1 y0 y1 y2 y3 y4 y5 y6 HB ck
                obtain ⟨y0, y1, y2, y3, y4, y5, y6⟩ := hc _ HB1.out
                obtain ⟨b, off, hA, hblt, m0, m1⟩ := HB1.out.rin.heads.at_ hj
                subst hA
                go_wp2_with fail
                go_quiet (fail)
                have HB2 := Lib.hid (HB1.out.later (w' := w1.drewN nq) ⟨rfl, rfl, rfl, Nat.le_refl _, fun _ _ => rfl⟩)
                clear y0 y1 y2 y3 y4 y5 y6 m0 m1 HB1
                generalize w1.drewN nq = w2 at *
                obtain ⟨y0, y1, y2, y3, y4, y5, y6⟩ := hc _ HB2.out
                go_wp2_with fail
                with_reducible refine (chd _ _ HB2.out).mono ?_
                rintro en w3 ⟨rfl, hb3⟩
                have HB3 := Lib.hid (HB2.out.later hb3)
                clear hb3 y0 y1 y2 y3 y4 y5 y6 HB2 chd
                obtain ⟨y0, y1, y2, y3, y4, y5, y6⟩ := hc _ HB3.out
                go_wp2_with fail
                with_reducible refine (chs _ hj _ HB3.out).mono ?_
                rintro en w4 ⟨rfl, hb4⟩
                have HB4 := Lib.hid (HB3.out.later hb4)
                clear hb4 y0 y1 y2 y3 y4 y5 y6 HB3 chs
                obtain ⟨y0, y1, y2, y3, y4, y5, y6⟩ := hc _ HB4.out
                go_wp2_with fail
                with_reducible refine (cis _ hj _ HB4.out).mono ?_
                rintro en w5 ⟨rfl, hb5⟩
                have HB5 := Lib.hid (HB4.out.later hb5)
                clear hb5 y0 y1 y2 y3 y4 y5 y6 HB4 cis
                obtain ⟨y0, y1, y2, y3, y4, y5, y6⟩ := hc _ HB5.out
                go_wp2_with fail
                with_reducible refine (cl _ HB5.out.tabs).mono ?_
                rintro en w6 ⟨rfl, hb6⟩
                have hb := (HB5.out.later hb6).bel
                clear hb6 cl HB5
                go_wp2_with fail
                go_ret
                exact ⟨rfl, hb⟩
              · obtain ⟨m, rfl⟩ : ∃ m : Nat, a2 = (m : Int) := ⟨a2.toNat, by omega⟩
                obtain ⟨e1, e2⟩ := pre_self (s := key) (n := m) (by omega)
                have cq := cpr (key.extract 0 m) (by omega) (by omega)
                rw [e2] at cq
                simp only [Bool.not_false, Bool.true_and] at cq
                clear cpr e1 e2 w21 w22
                have hle : (m : Int) ≤ (key.size : Int) := by omega
                go_enter Tryd.func6, Tryd.ntmps6
                go_wp2_with fail
                with_reducible refine (ck _ HB.out).mono ?_
                rintro en w1 ⟨rfl, hb1⟩
                have HB1 := Lib.hid (HB.out.later hb1)
                clear hb1 y0 y1 y2 y3 y4 y5 y6 HB ck
                obtain ⟨y0, y1, y2, y3, y4, y5, y6⟩ := hc _ HB1.out
                obtain ⟨b, off, hA, hblt, m0, m1⟩ := HB1.out.rin.heads.at_ hj
                subst hA
                go_wp2_with fail
                go_quiet (fail)
                have HB2 := Lib.hid (HB1.out.later (w' := w1.drewN nq) ⟨rfl, rfl, rfl, Nat.le_refl _, fun _ _ => rfl⟩)
                clear y0 y1 y2 y3 y4 y5 y6 m0 m1 HB1
                generalize w1.drewN nq = w2 at *
                obtain ⟨y0, y1, y2, y3, y4, y5, y6⟩ := hc _ HB2.out
                go_wp2_with fail
                with_reducible refine (chd _ _ HB2.out).mono ?_
                rintro en w3 ⟨rfl, hb3⟩
                have HB3 := Lib.hid (HB2.out.later hb3)
                clear hb3 y0 y1 y2 y3 y4 y5 y6 HB2 chd
                obtain ⟨y0, y1, y2, y3, y4, y5, y6⟩ := hc _ HB3.out
                go_wp2_with fail
                with_reducible refine (chs _ hj _ HB3.out).mono ?_
                rintro en w4 ⟨rfl, hb4⟩
                have HB4 := Lib.hid (HB3.out.later hb4)
                clear hb4 y0 y1 y2 y3 y4 y5 y6 HB3 chs
                obtain ⟨y0, y1, y2, y3, y4, y5, y6⟩ := hc _ HB4.out
                go_wp2_with fail
                with_reducible refine (cis _ hj _ HB4.out).mono ?_
                rintro en w5 ⟨rfl, hb5⟩
                have HB5 := Lib.hid (HB4.out.later hb5)
                clear hb5 y0 y1 y2 y3 y4 y5 y6 HB4 cis
                obtain ⟨y0, y1, y2, y3, y4, y5, y6⟩ := hc _ HB5.out
                go_wp2_with fail
                have hS := And.intro y0 (And.intro y1 (And.intro y2 (And.intro y3 (And.intro y4 (And.intro y5 (And.intro y6 HB5.out.box.lt))))))
                go_region_held3 (fun w => w.cell? ⟨W.heap.size, 0, none⟩ = some (.int .i64 place) ∧ w.cell? ⟨W.heap.size, 1, none⟩ = some (.int .i64 time) ∧ w.cell? ⟨W.heap.size, 2, none⟩ = some (.bool false) ∧ w.cell? ⟨W.heap.size, 3, none⟩ = some (.string key) ∧ w.cell? ⟨W.heap.size, 4, none⟩ = some (.bool gone) ∧ w.cell? ⟨W.heap.size, 5, none⟩ = some (.string value) ∧ w.cell? ⟨W.heap.size, 6, none⟩ = some (.slice (some ⟨b, off, none⟩) heads.length c) ∧ W.heap.size < w.heap.size)
                  (first | exact rb_later hS ((Below.refl _ _).drew) | exact rb_later (by assumption) (by assumption))
                  (first | ((with_reducible refine (cq _ (HB5.out.later ((Below.refl _ _).drew))).mono ?_); rintro e w19 ⟨rfl, hb19⟩))
                all_goals have HC := Lib.hid ((HB5.out.later ((Below.refl _ _).drew)).later hb19)
                all_goals clear hb19 y0 y1 y2 y3 y4 y5 y6 hS cq
                all_goals go_wp2_with fail
                all_goals with_reducible refine (cl _ HC.out.tabs).mono ?_
                all_goals rintro en w20 ⟨rfl, hb20⟩
                all_goals have hb := (HC.out.later hb20).bel
                all_goals clear hb20 cl HC
                all_goals go_wp2_with fail
                all_goals go_ret
                all_goals exact ⟨rfl, hb⟩
        · obtain ⟨p, rfl⟩ : ∃ p : Nat, a1 = (p : Int) := ⟨a1.toNat, by omega⟩
          have hjj : p % heads.length < heads.length := Nat.mod_lt _ hl0
          obtain ⟨j, hjd⟩ : ∃ j, j = p % heads.length := ⟨_, rfl⟩
          rw [← hjd] at hjj
          have hj : j < heads.length := hjj
          have htm : (p : Int).tmod (heads.length : Int) = (j : Int) := by rw [hjd]; exact Int.ofNat_tmod p heads.length ▸ rfl
          have hj0 : (j : Int) < (heads.length : Int) := by omega
          clear hjd hjj w11 w12
          cases bare with
          | true =>
            go_enter Tryd.func6, Tryd.ntmps6
            go_wp2_with fail
            with_reducible refine (ck _ HB.out).mono ?_
            rintro en w1 ⟨rfl, hb1⟩
            have HB1 := Lib.hid (HB.out.later hb1)
            clear hb1 y0 y1 y2 y3 y4 y5 y6 HB ck
            obtain ⟨y0, y1, y2, y3, y4, y5, y6⟩ := hc _ HB1.out
            obtain ⟨b, off, hA, hblt, m0, m1⟩ := HB1.out.rin.heads.at_ hj
            subst hA
            go_wp2_with fail
            go_quiet (fail)
            have HB2 := Lib.hid (HB1.out.later (w' := w1.drewN nq) ⟨rfl, rfl, rfl, Nat.le_refl _, fun _ _ => rfl⟩)
            clear y0 y1 y2 y3 y4 y5 y6 m0 m1 HB1
            generalize w1.drewN nq = w2 at *
            obtain ⟨y0, y1, y2, y3, y4, y5, y6⟩ := hc _ HB2.out
            go_wp2_with fail
            with_reducible refine (chd _ _ HB2.out).mono ?_
            rintro en w3 ⟨rfl, hb3⟩
            have HB3 := Lib.hid (HB2.out.later hb3)
            clear hb3 y0 y1 y2 y3 y4 y5 y6 HB2 chd
            obtain ⟨y0, y1, y2, y3, y4, y5, y6⟩ := hc _ HB3.out
            go_wp2_with fail
            with_reducible refine (chs _ hj _ HB3.out).mono ?_
            rintro en w4 ⟨rfl, hb4⟩
            have HB4 := Lib.hid (HB3.out.later hb4)
            clear hb4 y0 y1 y2 y3 y4 y5 y6 HB3 chs
            obtain ⟨y0, y1, y2, y3, y4, y5, y6⟩ := hc _ HB4.out
            go_wp2_with fail
            with_reducible refine (cis _ hj _ HB4.out).mono ?_
            rintro en w5 ⟨rfl, hb5⟩
            have HB5 := Lib.hid (HB4.out.later hb5)
            clear hb5 y0 y1 y2 y3 y4 y5 y6 HB4 cis
            obtain ⟨y0, y1, y2, y3, y4, y5, y6⟩ := hc _ HB5.out
            go_wp2_with fail
            with_reducible refine (cl _ HB5.out.tabs).mono ?_
            rintro en w6 ⟨rfl, hb6⟩
            have hb := (HB5.out.later hb6).bel
            clear hb6 cl HB5
            go_wp2_with fail
            go_ret
            exact ⟨rfl, hb⟩
          | false =>
            by_cases hn1 : a2 < 1
            · go_enter Tryd.func6, Tryd.ntmps6
              go_wp2_with fail
              with_reducible refine (ck _ HB.out).mono ?_
              rintro en w1 ⟨rfl, hb1⟩
              have HB1 := Lib.hid (HB.out.later hb1)
              clear hb1 y0 y1 y2 y3 y4 y5 y6 HB ck
              obtain ⟨y0, y1, y2, y3, y4, y5, y6⟩ := hc _ HB1.out
              obtain ⟨b, off, hA, hblt, m0, m1⟩ := HB1.out.rin.heads.at_ hj
              subst hA
              go_wp2_with fail
              go_quiet (fail)
              have HB2 := Lib.hid (HB1.out.later (w' := w1.drewN nq) ⟨rfl, rfl, rfl, Nat.le_refl _, fun _ _ => rfl⟩)
              clear y0 y1 y2 y3 y4 y5 y6 m0 m1 HB1
              generalize w1.drewN nq = w2 at *
              obtain ⟨y0, y1, y2, y3, y4, y5, y6⟩ := hc _ HB2.out
              go_wp2_with fail
              with_reducible refine (chd _ _ HB2.out).mono ?_
              rintro en w3 ⟨rfl, hb3⟩
              have HB3 := Lib.hid (HB2.out.later hb3)
              clear hb3 y0 y1 y2 y3 y4 y5 y6 HB2 chd
              obtain ⟨y0, y1, y2, y3, y4, y5, y6⟩ := hc _ HB3.out
              go_wp2_with fail
              with_reducible refine (chs _ hj _ HB3.out).mono ?_
              rintro en w4 ⟨rfl, hb4⟩
              have HB4 := Lib.hid (HB3.out.later hb4)
              clear hb4 y0 y1 y2 y3 y4 y5 y6 HB3 chs
              obtain ⟨y0, y1, y2, y3, y4, y5, y6⟩ := hc _ HB4.out
              go_wp2_with fail
              with_reducible refine (cis _ hj _ HB4.out).mono ?_
              rintro en w5 ⟨rfl, hb5⟩
              have HB5 := Lib.hid (HB4.out.later hb5)
              clear hb5 y0 y1 y2 y3 y4 y5 y6 HB4 cis
              obtain ⟨y0, y1, y2, y3, y4, y5, y6⟩ := hc _ HB5.out
              go_wp2_with fail
              with_reducible refine (cl _ HB5.out.tabs).mono ?_
              rintro en w6 ⟨rfl, hb6⟩
              have hb := (HB5.out.later hb6).bel
              clear hb6 cl HB5
              go_wp2_with fail
              go_ret
              exact ⟨rfl, hb⟩
            · by_cases hn2 : (key.size : Int) < a2
              · go_enter Tryd.func6, Tryd.ntmps6
                go_wp2_with fail
                with_reducible refine (ck _ HB.out).mono ?_
                rintro en w1 ⟨rfl, hb1⟩
                have HB1 := Lib.hid (HB.out.later hb1)
                clear hb1 y0 y1 y2 y3 y4 y5 y6 HB ck
                obtain ⟨y0, y1, y2, y3, y4, y5, y6⟩ := hc _ HB1.out
                obtain ⟨b, off, hA, hblt, m0, m1⟩ := HB1.out.rin.heads.at_ hj
                subst hA
                go_wp2_with fail
                go_quiet (fail)
                have HB2 := Lib.hid (HB1.out.later (w' := w1.drewN nq) ⟨rfl, rfl, rfl, Nat.le_refl _, fun _ _ => rfl⟩)
                clear y0 y1 y2 y3 y4 y5 y6 m0 m1 HB1
                generalize w1.drewN nq = w2 at *
                obtain ⟨y0, y1, y2, y3, y4, y5, y6⟩ := hc _ HB2.out
                go_wp2_with fail
                with_reducible refine (chd _ _ HB2.out).mono ?_
                rintro en w3 ⟨rfl, hb3⟩
                have HB3 := Lib.hid (HB2.out.later hb3)
                clear hb3 y0 y1 y2 y3 y4 y5 y6 HB2 chd
                obtain ⟨y0, y1, y2, y3, y4, y5, y6⟩ := hc _ HB3.out
                go_wp2_with fail
                with_reducible refine (chs _ hj _ HB3.out).mono ?_
                rintro en w4 ⟨rfl, hb4⟩
                have HB4 := Lib.hid (HB3.out.later hb4)
                clear hb4 y0 y1 y2 y3 y4 y5 y6 HB3 chs
                obtain ⟨y0, y1, y2, y3, y4, y5, y6⟩ := hc _ HB4.out
                go_wp2_with fail
                with_reducible refine (cis _ hj _ HB4.out).mono ?_
                rintro en w5 ⟨rfl, hb5⟩
                have HB5 := Lib.hid (HB4.out.later hb5)
                clear hb5 y0 y1 y2 y3 y4 y5 y6 HB4 cis
                obtain ⟨y0, y1, y2, y3, y4, y5, y6⟩ := hc _ HB5.out
                go_wp2_with fail
                with_reducible refine (cl _ HB5.out.tabs).mono ?_
                rintro en w6 ⟨rfl, hb6⟩
                have hb := (HB5.out.later hb6).bel
                clear hb6 cl HB5
                go_wp2_with fail
                go_ret
                exact ⟨rfl, hb⟩
              · obtain ⟨m, rfl⟩ : ∃ m : Nat, a2 = (m : Int) := ⟨a2.toNat, by omega⟩
                obtain ⟨e1, e2⟩ := pre_self (s := key) (n := m) (by omega)
                have cq := cpr (key.extract 0 m) (by omega) (by omega)
                rw [e2] at cq
                simp only [Bool.not_false, Bool.true_and] at cq
                clear cpr e1 e2 w21 w22
                have hle : (m : Int) ≤ (key.size : Int) := by omega
                go_enter Tryd.func6, Tryd.ntmps6
                go_wp2_with fail
                with_reducible refine (ck _ HB.out).mono ?_
                rintro en w1 ⟨rfl, hb1⟩
                have HB1 := Lib.hid (HB.out.later hb1)
                clear hb1 y0 y1 y2 y3 y4 y5 y6 HB ck
                obtain ⟨y0, y1, y2, y3, y4, y5, y6⟩ := hc _ HB1.out
                obtain ⟨b, off, hA, hblt, m0, m1⟩ := HB1.out.rin.heads.at_ hj
                subst hA
                go_wp2_with fail
                go_quiet (fail)
                have HB2 := Lib.hid (HB1.out.later (w' := w1.drewN nq) ⟨rfl, rfl, rfl, Nat.le_refl _, fun _ _ => rfl⟩)
                clear y0 y1 y2 y3 y4 y5 y6 m0 m1 HB1
                generalize w1.drewN nq = w2 at *
                obtain ⟨y0, y1, y2, y3, y4, y5, y6⟩ := hc _ HB2.out
                go_wp2_with fail
                with_reducible refine (chd _ _ HB2.out).mono ?_
                rintro en w3 ⟨rfl, hb3⟩
                have HB3 := Lib.hid (HB2.out.later hb3)
                clear hb3 y0 y1 y2 y3 y4 y5 y6 HB2 chd
                obtain ⟨y0, y1, y2, y3, y4, y5, y6⟩ := hc _ HB3.out
                go_wp2_with fail
                with_reducible refine (chs _ hj _ HB3.out).mono ?_
                rintro en w4 ⟨rfl, hb4⟩
                have HB4 := Lib.hid (HB3.out.later hb4)
                clear hb4 y0 y1 y2 y3 y4 y5 y6 HB3 chs
                obtain ⟨y0, y1, y2, y3, y4, y5, y6⟩ := hc _ HB4.out
                go_wp2_with fail
                with_reducible refine (cis _ hj _ HB4.out).mono ?_
                rintro en w5 ⟨rfl, hb5⟩
                have HB5 := Lib.hid (HB4.out.later hb5)
                clear hb5 y0 y1 y2 y3 y4 y5 y6 HB4 cis
                obtain ⟨y0, y1, y2, y3, y4, y5, y6⟩ := hc _ HB5.out
                go_wp2_with fail
                have hS := And.intro y0 (And.intro y1 (And.intro y2 (And.intro y3 (And.intro y4 (And.intro y5 (And.intro y6 HB5.out.box.lt))))))
                go_region_held3 (fun w => w.cell? ⟨W.heap.size, 0, none⟩ = some (.int .i64 place) ∧ w.cell? ⟨W.heap.size, 1, none⟩ = some (.int .i64 time) ∧ w.cell? ⟨W.heap.size, 2, none⟩ = some (.bool false) ∧ w.cell? ⟨W.heap.size, 3, none⟩ = some (.string key) ∧ w.cell? ⟨W.heap.size, 4, none⟩ = some (.bool gone) ∧ w.cell? ⟨W.heap.size, 5, none⟩ = some (.string value) ∧ w.cell? ⟨W.heap.size, 6, none⟩ = some (.slice (some ⟨b, off, none⟩) heads.length c) ∧ W.heap.size < w.heap.size)
                  (first | exact rb_later hS ((Below.refl _ _).drew) | exact rb_later (by assumption) (by assumption))
                  (first | ((with_reducible refine (cq _ (HB5.out.later ((Below.refl _ _).drew))).mono ?_); rintro e w19 ⟨rfl, hb19⟩))
                all_goals have HC := Lib.hid ((HB5.out.later ((Below.refl _ _).drew)).later hb19)
                all_goals clear hb19 y0 y1 y2 y3 y4 y5 y6 hS cq
                all_goals go_wp2_with fail
                all_goals with_reducible refine (cl _ HC.out.tabs).mono ?_
                all_goals rintro en w20 ⟨rfl, hb20⟩
                all_goals have hb := (HC.out.later hb20).bel
                all_goals clear hb20 cl HC
                all_goals go_wp2_with fail
                all_goals go_ret
                all_goals exact ⟨rfl, hb⟩
      · have hnil : heads = [] := List.eq_nil_of_length_eq_zero (by omega)
        subst hnil
        clear hl0 chs cis chd
        simp only [List.length_nil] at *
        cases bare with
        | true =>
          go_enter Tryd.func6, Tryd.ntmps6
          go_wp2_with fail
          with_reducible refine (ck _ HB.out).mono ?_
          rintro en w1 ⟨rfl, hb1⟩
          have HB1 := Lib.hid (HB.out.later hb1)
          clear hb1 y0 y1 y2 y3 y4 y5 y6 HB ck
          obtain ⟨y0, y1, y2, y3, y4, y5, y6⟩ := hc _ HB1.out
          go_wp2_with fail
          with_reducible refine (cl _ HB1.out.tabs).mono ?_
          rintro en w2 ⟨rfl, hb2⟩
          have hb := (HB1.out.later hb2).bel
          clear hb2 cl HB1
          go_wp2_with fail
          go_ret
          exact ⟨rfl, hb⟩
        | false =>
          by_cases hn1 : a2 < 1
          · go_enter Tryd.func6, Tryd.ntmps6
            go_wp2_with fail
            with_reducible refine (ck _ HB.out).mono ?_
            rintro en w1 ⟨rfl, hb1⟩
            have HB1 := Lib.hid (HB.out.later hb1)
            clear hb1 y0 y1 y2 y3 y4 y5 y6 HB ck
            obtain ⟨y0, y1, y2, y3, y4, y5, y6⟩ := hc _ HB1.out
            go_wp2_with fail
            with_reducible refine (cl _ HB1.out.tabs).mono ?_
            rintro en w2 ⟨rfl, hb2⟩
            have hb := (HB1.out.later hb2).bel
            clear hb2 cl HB1
            go_wp2_with fail
            go_ret
            exact ⟨rfl, hb⟩
          · by_cases hn2 : (key.size : Int) < a2
            · go_enter Tryd.func6, Tryd.ntmps6
              go_wp2_with fail
              with_reducible refine (ck _ HB.out).mono ?_
              rintro en w1 ⟨rfl, hb1⟩
              have HB1 := Lib.hid (HB.out.later hb1)
              clear hb1 y0 y1 y2 y3 y4 y5 y6 HB ck
              obtain ⟨y0, y1, y2, y3, y4, y5, y6⟩ := hc _ HB1.out
              go_wp2_with fail
              with_reducible refine (cl _ HB1.out.tabs).mono ?_
              rintro en w2 ⟨rfl, hb2⟩
              have hb := (HB1.out.later hb2).bel
              clear hb2 cl HB1
              go_wp2_with fail
              go_ret
              exact ⟨rfl, hb⟩
            · obtain ⟨m, rfl⟩ : ∃ m : Nat, a2 = (m : Int) := ⟨a2.toNat, by omega⟩
              obtain ⟨e1, e2⟩ := pre_self (s := key) (n := m) (by omega)
              have cq := cpr (key.extract 0 m) (by omega) (by omega)
              rw [e2] at cq
              simp only [Bool.not_false, Bool.true_and] at cq
              clear cpr e1 e2 w21 w22
              have hle : (m : Int) ≤ (key.size : Int) := by omega
              go_enter Tryd.func6, Tryd.ntmps6
              go_wp2_with fail
              with_reducible refine (ck _ HB.out).mono ?_
              rintro en w1 ⟨rfl, hb1⟩
              have HB1 := Lib.hid (HB.out.later hb1)
              clear hb1 y0 y1 y2 y3 y4 y5 y6 HB ck
              obtain ⟨y0, y1, y2, y3, y4, y5, y6⟩ := hc _ HB1.out
              go_wp2_with fail
              have hS := And.intro y0 (And.intro y1 (And.intro y2 (And.intro y3 (And.intro y4 (And.intro y5 (And.intro y6 HB1.out.box.lt))))))
              go_region_held3 (fun w => w.cell? ⟨W.heap.size, 0, none⟩ = some (.int .i64 place) ∧ w.cell? ⟨W.heap.size, 1, none⟩ = some (.int .i64 time) ∧ w.cell? ⟨W.heap.size, 2, none⟩ = some (.bool false) ∧ w.cell? ⟨W.heap.size, 3, none⟩ = some (.string key) ∧ w.cell? ⟨W.heap.size, 4, none⟩ = some (.bool gone) ∧ w.cell? ⟨W.heap.size, 5, none⟩ = some (.string value) ∧ w.cell? ⟨W.heap.size, 6, none⟩ = some (.slice A 0 c) ∧ W.heap.size < w.heap.size)
                (first | exact rb_later hS ((Below.refl _ _).drew) | exact rb_later (by assumption) (by assumption))
                (first | ((with_reducible refine (cq _ (HB1.out.later ((Below.refl _ _).drew))).mono ?_); rintro e w19 ⟨rfl, hb19⟩))
              all_goals have HC := Lib.hid ((HB1.out.later ((Below.refl _ _).drew)).later hb19)
              all_goals clear hb19 y0 y1 y2 y3 y4 y5 y6 hS cq
              all_goals go_wp2_with fail
              all_goals with_reducible refine (cl _ HC.out.tabs).mono ?_
              all_goals rintro en w20 ⟨rfl, hb20⟩
              all_goals have hb := (HC.out.later hb20).bel
              all_goals clear hb20 cl HC
              all_goals go_wp2_with fail
              all_goals go_ret
              all_goals exact ⟨rfl, hb⟩
    · rw [hr] at ck
      clear hR hTb hr
      unfold recV recC Yes at *
      go_enter Tryd.func6, Tryd.ntmps6
      go_wp2_with fail
      with_reducible refine (ck _ HB.out).mono ?_
      rintro en w1 ⟨rfl, hb1⟩
      have HB1 := Lib.hid (HB.out.later hb1)
      clear hb1 y0 y1 y2 y3 y4 y5 y6 HB ck
      obtain ⟨y0, y1, y2, y3, y4, y5, y6⟩ := hc _ HB1.out
      go_wp2_with fail
      with_reducible refine (cl _ HB1.out.tabs).mono ?_
      rintro en w2 ⟨rfl, hb2⟩
      have hb := (HB1.out.later hb2).bel
      clear hb2 cl HB1
      go_wp2_with fail
      go_ret
      exact ⟨rfl, hb⟩
  · clear hR hTb ck
    unfold recV recC Yes at *
    go_enter Tryd.func6, Tryd.ntmps6
    go_wp2_with fail
    with_reducible refine (cl _ HB.out.tabs).mono ?_
    rintro en w1 ⟨rfl, hb1⟩
    have hb := (HB.out.later hb1).bel
    clear hb1 cl HB
    go_wp2_with fail
    go_ret
    exact ⟨rfl, hb⟩
theorem matchHeaders_walk (r : Rec) (A : Option Addr) (c : Nat) (a1 a2 : Int) (W : World) (hR : RIn W r A c) (hS : RSmall r) (w1 : (Lit.int .i64 a1).wf = true) (w2 : (Lit.int .i64 a2).wf = true) (hTb : Tabs W) :
    Calls Tryd.prog 6 #[recV r A c, .int .i64 a1, .int .i64 a2] W (Yes W) :=
  headers_walk r A c a1 a2 W hR hS ⟨(i64_bd w1).1, by have := (i64_bd w1).2; omega⟩ ⟨(i64_bd w2).1, by have := (i64_bd w2).2; omega⟩ hTb
end Go.Proofs.YtmnmgbbdjpfonaaDoor
