/- index: the law IndexScripts walks to true. No condition. -/
import Derived.Test.YtljgiabaekddlaaIxLa
namespace Go.Proofs.Ytljgiabaekddlaa
open Go.RowKit
set_option linter.unusedVariables false
theorem Tw.beside {W w : World} {bI : Nat} {x : Ix} {every : Int} (h : Tw W (XI bI x) (fun _ _ => True) w) (he : 0 ≤ every ∧ every ≤ 1000000) :
    Tw W (XI bI x) (RI w.heap.size ⟨every, [], 0, 0, 0⟩) (w.alloc (.cells #[.int .i64 every, .slice none 0 0, .bool false, .int .i64 0, .int .i64 0, .int .i64 0, .int .i64 0] 33)) := by
  obtain ⟨S, T, h1, h2, h3, h4, h5, h6⟩ := h
  have hb : Below w.heap.size w (w.alloc (.cells #[.int .i64 every, .slice none 0 0, .bool false, .int .i64 0, .int .i64 0, .int .i64 0, .int .i64 0] 33)) := (Below.refl _ w).alloc (Nat.le_refl _) _
  refine ⟨_, fun k => k = w.heap.size, (xi_rep bI x).off _ _ _ _ ((xi_rep bI x).tight _ _ h1) (Off.of_below (fun _ => False) hb) (fun _ _ x => x), ⟨none, 0, ⟨Box.new w _ _, World.ownsRow_nil _ _ _ _, Nat.zero_le _, (fun _ => rfl), he, (fun e he => by cases he)⟩, rfl, fun k ⟨a, e, _⟩ => by cases e⟩, fun k hk e => ?_, fun k hk => h4 k hk.1, fun k e => ?_, h6.trans (hb.mono h6.size)⟩
  · have := hk.2
    omega
  · have := h6.size
    omega
/-- What is left to compare: the entries told, and the document's. -/
structure EnS (W : World) (q : Nat) (x : Ix) (A : Option Addr) (c : Nat) (w : World) : Prop where
  row : w.ownsRow 0 39 3 (.slice A x.L.length c) x.L.length (tldC x.L)
  ref : ∃ A' c', RxIs w 0 q x A' c'
  bel : Below W.heap.size W w
theorem EnS.later {W w w' : World} {q c : Nat} {x : Ix} {A : Option Addr} (h : EnS W q x A c w) (hb : Below w.heap.size w w') : EnS W q x A c w' := by
  obtain ⟨A', c', hr⟩ := h.ref
  exact ⟨own_below h.row hb, ⟨A', c', hr.later hb⟩, h.bel.trans (hb.mono h.bel.size)⟩
set_option maxHeartbeats 16000000 in
set_option maxRecDepth 100000 in
theorem indexScripts_walk (ev : Int) (L : List En) (A : Option Addr) (c : Nat) (at_ : Int) (W : World) (w0 : (Lit.int .i64 ev).wf = true) (hL : ItsIn W A L) (hlen : L.length ≤ 140737488351232) (w2 : (Lit.int .i64 at_).wf = true) :
    Calls Try.prog 3 #[.int .i64 ev, .slice A L.length c, .int .i64 at_] W (Yes W) := by
  have HL := Lib.hid (And.intro hL hlen)
  have hnew := new_c ev W
  unfold GotNew at hnew
  clear hL hlen w0 w2
  by_cases hev : 1 ≤ ev ∧ ev ≤ 1000000
  · have HEV := Lib.hid (show 0 ≤ ev ∧ ev ≤ 1000000 by omega)
    have hev1 : ¬ ev < 1 := by omega
    have hev2 : ¬ 1000000 < ev := by omega
    go_enter Try.func3, Try.ntmps3
    go_wp2_with fail
    (with_reducible refine hnew.mono ?_)
    rintro e w1 ⟨_, hn⟩
    obtain ⟨rfl, hx, hb⟩ := hn hev
    have H1 : Hid (Tw W (XI W.heap.size ⟨ev, [], 0, 0, 0⟩) (RI w1.heap.size ⟨ev, [], 0, 0, 0⟩) _) := Lib.hid ((Tw.start hx (Nat.le_refl _) hb).beside HEV.out)
    clear hn hx hb hnew hev
    go_wp2_with fail
    obtain ⟨bI, hbI⟩ : ∃ n, W.heap.size = n := ⟨_, rfl⟩
    obtain ⟨q, hq⟩ : ∃ n, w1.heap.size = n := ⟨_, rfl⟩
    rw [hq]
    have H2 : Hid (Tw W (XI bI ⟨ev, [], 0, 0, 0⟩) (RI q ⟨ev, [], 0, 0, 0⟩) (w1.alloc (.cells #[.int .i64 ev, .slice none 0 0, .bool false, .int .i64 0, .int .i64 0, .int .i64 0, .int .i64 0] 33))) := Lib.hid (by rw [← hbI, ← hq]; exact H1.out)
    have HBI := Lib.hid (And.intro hbI hq)
    rw [hbI]
    clear H1 hq hbI
    generalize (w1.alloc (.cells #[.int .i64 ev, .slice none 0 0, .bool false, .int .i64 0, .int .i64 0, .int .i64 0, .int .i64 0] 33)) = W2 at *
    go_loopw [10] (fun i wr => ∃ (k : Nat) (x : Ix), i = .int .i64 k ∧ k ≤ L.length ∧ k ≤ 80 ∧ x.L.length ≤ k ∧ x.Wf ∧ Tw W (XI bI x) (RI q x) wr) (fun i _ => L.length - (intOf i).toNat)
    case atStart => exact ⟨0, ⟨ev, [], 0, 0, 0⟩, rfl, Nat.zero_le _, by decide, Nat.le_refl _, Ix.wf_new ev, H2.out⟩
    case round =>
      obtain ⟨k, x, rfl, hk, hk8, hxl, hwf, hT⟩ := hrel
      clear H2
      have HT := Lib.hid hT
      have HWF := Lib.hid hwf
      clear hT hwf
      by_cases hkl : k < L.length ∧ k < 80
      · obtain ⟨hk1, hk2⟩ := hkl
        have he := atE_some hk1
        generalize atE L k = e at *
        obtain ⟨o, p, t⟩ := e
        obtain ⟨b, of, rfl, hbl, q0, q1, q2⟩ := its_at HL.out.1 HT.out.bel he
        simp only at q0 q1 q2
        have xk : ∀ w I J, Tw W I J w → w.cell? ⟨b, of + k * 3, none⟩ = some (.int .i64 o) ∧ w.cell? ⟨b, of + k * 3 + 1, none⟩ = some (.int .i64 p) ∧ w.cell? ⟨b, of + k * 3 + 2, none⟩ = some (.int .i64 t) := fun w I J h => by
          obtain ⟨b', of', e1, hl', r0, r1, r2⟩ := its_at HL.out.1 h.bel he
          injection e1 with e1
          injection e1 with e1 e2
          subst e1 e2
          exact ⟨r0, r1, r2⟩
        have XK := Lib.hid xk
        have ca := (HT.out.later (xi_rep bI x) (ri_rep q x) (Below.refl _ _).drew).xadd (ri_rep q x) o p t (by omega)
        have cr := fun w (h : Tw W (XI bI (x.add o p t)) (RI q x) w) => h.radd (xi_rep bI _) o p t (by omega)
        have hki : (k : Int) < (L.length : Int) := by omega
        have hk0 : (0 : Int) ≤ (k : Int) := by omega
        have hk80 : (k : Int) < 80 := by omega
        have HK := Lib.hid (And.intro hk1 hk2)
        have hxl2 : (x.add o p t).L.length ≤ k + 1 := by have := x.add_len o p t; omega
        have hwf2 := Ix.wf_add HWF.out o p t
        clear he hk1 hk2 xk HWF
        generalize x.add o p t = x2 at *
        generalize x.addE o p t = er at *
        have HW2 := Lib.hid (And.intro hxl2 hwf2)
        have hx5 : x2.L.length ≤ 100000 := by omega
        have keep : ∀ w w', (fun w => w.cell? ⟨b, of + k * 3, none⟩ = some (.int .i64 o) ∧ w.cell? ⟨b, of + k * 3 + 1, none⟩ = some (.int .i64 p) ∧ w.cell? ⟨b, of + k * 3 + 2, none⟩ = some (.int .i64 t) ∧ Tw W (XI bI x2) (RI q x2) w) w → Below w.heap.size w w' → (fun w => w.cell? ⟨b, of + k * 3, none⟩ = some (.int .i64 o) ∧ w.cell? ⟨b, of + k * 3 + 1, none⟩ = some (.int .i64 p) ∧ w.cell? ⟨b, of + k * 3 + 2, none⟩ = some (.int .i64 t) ∧ Tw W (XI bI x2) (RI q x2) w) w' := fun w w' h hb => by
          have := h.2.2.2.later (xi_rep bI x2) (ri_rep q x2) hb
          obtain ⟨a1, a2, a3⟩ := XK.out _ _ _ this
          exact ⟨a1, a2, a3, this⟩
        have c1 := fun w (off : Int) (h : (fun w => w.cell? ⟨b, of + k * 3, none⟩ = some (.int .i64 o) ∧ w.cell? ⟨b, of + k * 3 + 1, none⟩ = some (.int .i64 p) ∧ w.cell? ⟨b, of + k * 3 + 2, none⟩ = some (.int .i64 t) ∧ Tw W (XI bI x2) (RI q x2) w) w) => (show Calls Try.prog 12 #[.pointer (some ⟨bI, 0, none⟩), .int .i64 off] w (Good w (.int .i64 (aheadG x2.L (qF off)))) from by
          obtain ⟨_, _, _, S, T, ⟨A, c, h1, _⟩, _⟩ := h
          exact find_c x2 A c 0 bI off w h1 (by omega) hwf2.1)
        have c2 := fun w (off : Int) (h : (fun w => w.cell? ⟨b, of + k * 3, none⟩ = some (.int .i64 o) ∧ w.cell? ⟨b, of + k * 3 + 1, none⟩ = some (.int .i64 p) ∧ w.cell? ⟨b, of + k * 3 + 2, none⟩ = some (.int .i64 t) ∧ Tw W (XI bI x2) (RI q x2) w) w) => (show Calls Try.prog 14 #[.pointer (some ⟨bI, 0, none⟩), .int .i64 off] w (Good w (.int .i64 (aheadG x2.L (qS off)))) from by
          obtain ⟨_, _, _, S, T, ⟨A, c, h1, _⟩, _⟩ := h
          exact seek_c x2 A c 0 bI off w h1 (by omega) hwf2.1)
        have c3 := fun w (off : Int) (h : (fun w => w.cell? ⟨b, of + k * 3, none⟩ = some (.int .i64 o) ∧ w.cell? ⟨b, of + k * 3 + 1, none⟩ = some (.int .i64 p) ∧ w.cell? ⟨b, of + k * 3 + 2, none⟩ = some (.int .i64 t) ∧ Tw W (XI bI x2) (RI q x2) w) w) => (show Calls Try.prog 13 #[.pointer (some ⟨q, 0, none⟩), .int .i64 off] w (Good w (.int .i64 (aheadG x2.L (qF off)))) from by
          obtain ⟨_, _, _, S, T, _, ⟨A, c, h1, _⟩, _⟩ := h
          have := rfind_c x2 A c 0 q off w h1 (by omega)
          rwa [refG_ahead (qF_pair hwf2.1 off)] at this)
        have c4 := fun w (off : Int) (h : (fun w => w.cell? ⟨b, of + k * 3, none⟩ = some (.int .i64 o) ∧ w.cell? ⟨b, of + k * 3 + 1, none⟩ = some (.int .i64 p) ∧ w.cell? ⟨b, of + k * 3 + 2, none⟩ = some (.int .i64 t) ∧ Tw W (XI bI x2) (RI q x2) w) w) => (show Calls Try.prog 15 #[.pointer (some ⟨q, 0, none⟩), .int .i64 off] w (Good w (.int .i64 (aheadG x2.L (qS off)))) from by
          obtain ⟨_, _, _, S, T, _, ⟨A, c, h1, _⟩, _⟩ := h
          have := rseek_c x2 A c 0 q off w h1 (by omega)
          rwa [refG_ahead (qS_pair hwf2.1 off)] at this)
        have C1 := Lib.hid c1
        have C2 := Lib.hid c2
        have C3 := Lib.hid c3
        have C4 := Lib.hid c4
        have KP := Lib.hid keep
        clear c1 c2 c3 c4 keep hxl2 hwf2
        go_wp2_with fail
        go_region_held3 (fun w => w.cell? ⟨b, of + k * 3, none⟩ = some (.int .i64 o) ∧ w.cell? ⟨b, of + k * 3 + 1, none⟩ = some (.int .i64 p) ∧ w.cell? ⟨b, of + k * 3 + 2, none⟩ = some (.int .i64 t))
          (first | exact ⟨q0, q1, q2⟩ | exact XK.out _ _ _ (by assumption))
          (first | ((with_reducible refine ca.mono ?_); rintro e w3 ⟨rfl, ht1⟩) | ((with_reducible refine (cr _ (by assumption)).mono ?_); rintro e w4 ⟨rfl, ht2⟩))
        have hs0 : (fun w => w.cell? ⟨b, of + k * 3, none⟩ = some (.int .i64 o) ∧ w.cell? ⟨b, of + k * 3 + 1, none⟩ = some (.int .i64 p) ∧ w.cell? ⟨b, of + k * 3 + 2, none⟩ = some (.int .i64 t) ∧ Tw W (XI bI x2) (RI q x2) w) w4 := by
          obtain ⟨a1, a2, a3⟩ := XK.out _ _ _ ht2
          exact ⟨a1, a2, a3, ht2⟩
        have CA := Lib.hid (fun w (h : (fun w => w.cell? ⟨b, of + k * 3, none⟩ = some (.int .i64 o) ∧ w.cell? ⟨b, of + k * 3 + 1, none⟩ = some (.int .i64 p) ∧ w.cell? ⟨b, of + k * 3 + 2, none⟩ = some (.int .i64 t) ∧ Tw W (XI bI x2) (RI q x2) w) w) => h.2.2.2)
        clear ht1 ht2 ca cr q0 q1 q2
        obtain ⟨q0, q1, q2, hq9⟩ := id hs0
        clear hq9
        go_wp2_with fail
        go_region_held3 (fun w => w.cell? ⟨b, of + k * 3, none⟩ = some (.int .i64 o) ∧ w.cell? ⟨b, of + k * 3 + 1, none⟩ = some (.int .i64 p) ∧ w.cell? ⟨b, of + k * 3 + 2, none⟩ = some (.int .i64 t) ∧ Tw W (XI bI x2) (RI q x2) w)
          (first | exact KP.out _ _ hs0 ((Below.refl _ _).drew) | exact KP.out _ _ (by assumption) (by assumption))
          (first | ((with_reducible refine (C1.out _ _ (by assumption)).mono ?_); rintro e w5 ⟨rfl, hb5⟩) | ((with_reducible refine (C2.out _ _ (by assumption)).mono ?_); rintro e w5 ⟨rfl, hb5⟩) | ((with_reducible refine (C3.out _ _ (by assumption)).mono ?_); rintro e w5 ⟨rfl, hb5⟩) | ((with_reducible refine (C4.out _ _ (by assumption)).mono ?_); rintro e w5 ⟨rfl, hb5⟩))
        all_goals
          have HT9 := Lib.hid (CA.out _ (by assumption))
          go_wp2_with fail
          go_roundw
          case rel => exact ⟨k + 1, x2, by go_num, HK.out.1, HK.out.2, HW2.out.1, HW2.out.2, HT9.out⟩
          case measure => simp [intOf]; omega
      · have hstop : ¬ ((k : Int) < (L.length : Int)) ∨ (k : Int) < (L.length : Int) ∧ ¬ ((k : Int) < 80) := by omega
        have hx1 : x.L.length ≤ 100 := by omega
        obtain ⟨S, T, ⟨Ax, cx, hIx, _⟩, ⟨Ar, cr, hIr, _⟩, _⟩ := HT.out
        have ce := entries_c x Ax cx 0 bI wr hIx (by omega)
        have HR := Lib.hid hIr
        unfold GotEns at ce
        clear hkl hk hk8 hxl hIx hIr HWF
        rcases hstop with hs | ⟨hs1, hs2⟩
        all_goals
          go_wp2_with fail
          (with_reducible refine ce.mono ?_)
          rintro e w2 ⟨Ae, cE, rfl, hrow, hb⟩
          have H2 : Hid (EnS W q x Ae cE w2) := Lib.hid ⟨own_base hrow (Nat.zero_le _), ⟨Ar, cr, HR.out.later hb⟩, HT.out.bel.trans (hb.mono HT.out.bel.size)⟩
          have c1 : w2.cell? ⟨q, 1, none⟩ = some (.slice Ar x.L.length cr) := (rx_cells (HR.out.later hb).box).2.1
          clear hrow hb ce HR
          go_wp2_with fail
          clear c1
          go_loopw [12] (fun i wr => ∃ k : Nat, i = .int .i64 k ∧ k ≤ x.L.length ∧ EnS W q x Ae cE wr) (fun i _ => x.L.length - (intOf i).toNat)
          case atStart => exact ⟨0, rfl, Nat.zero_le _, H2.out⟩
          case round =>
            obtain ⟨j, rfl, hj, hE⟩ := hrel
            clear H2
            have HE := Lib.hid hE
            by_cases hjl : j < x.L.length
            · have he := atE_some hjl
              obtain ⟨Ar2, cr2, hr⟩ := hE.ref
              obtain ⟨g1, hA1, p0, p1, p2, hg1, hc1⟩ := rx_entry hE.row he
              obtain ⟨g2, hA2, s0, s1, s2, hg2, hc2⟩ := rx_entry hr.row he
              subst hA1 hA2
              have c1 : wr.cell? ⟨q, 1, none⟩ = some (.slice (some ⟨g2, 0, none⟩) x.L.length cr2) := (rx_cells hr.box).2.1
              have j0 : (0 : Int) ≤ (j : Int) := by omega
              have j1 : (j : Int) < (x.L.length : Int) := by omega
              clear hE hr he hg1 hg2
              generalize atE x.L j = e at *
              obtain ⟨o, p, t⟩ := e
              simp only at p0 p1 p2 s0 s1 s2
              have HE2 : Hid (∀ n, EnS W q x (some ⟨g1, 0, none⟩) cE (wr.drewN n)) := Lib.hid (fun n => HE.out.later ⟨rfl, rfl, rfl, Nat.le_refl _, fun _ _ => rfl⟩)
              go_wp2_with fail
              go_quiet (fail)
              go_wp2_with fail
              go_roundw
              case rel => exact ⟨j + 1, by go_num, hjl, HE2.out _⟩
              case measure => simp [intOf]; omega
            · clear hE
              go_wp2_with fail
              (with_reducible refine (live9_c _).mono ?_)
              rintro e w3 ⟨rfl, hb⟩
              have H3 := Lib.hid (HE.out.bel.trans (hb.mono HE.out.bel.size))
              clear hb
              go_wp2_with fail
              go_ret
              exact ⟨rfl, H3.out⟩
  · have hcase : ev < 1 ∨ ¬ ev < 1 ∧ 1000000 < ev := by omega
    rcases hcase with h1 | ⟨h1, h2⟩
    all_goals
      go_enter Try.func3, Try.ntmps3
      go_wp2_with fail
      (with_reducible refine hnew.mono ?_)
      rintro e w1 ⟨hn, _⟩
      obtain ⟨rfl, hw⟩ := hn hev
      have hw' := hw.symm
      subst hw'
      clear hn hw hnew hev
      go_wp2_with fail
      (with_reducible refine (live9_c _).mono ?_)
      rintro e w2 ⟨rfl, hb⟩
      have H2 := Lib.hid hb
      clear hb
      go_wp2_with fail
      go_ret
      exact ⟨rfl, H2.out⟩
end Go.Proofs.Ytljgiabaekddlaa
