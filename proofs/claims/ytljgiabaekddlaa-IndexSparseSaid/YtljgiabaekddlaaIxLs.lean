/- index: the law IndexSparse walks to true. No condition. -/
import Derived.Test.YtljgiabaekddlaaIxPa
namespace Go.Proofs.Ytljgiabaekddlaa
open Go.RowKit
set_option linter.unusedVariables false
theorem Tw.beside2 {W w w' : World} {bI q : Nat} {x y : Ix} (h : Tw W (XI bI x) (fun _ _ => True) w) (hx : IxIs w' q q y none 0) (hq : q = w.heap.size) (hb : Below w.heap.size w w') : Tw W (XI bI x) (XI q y) w' := by
  obtain ⟨S, T, h1, h2, h3, h4, h5, h6⟩ := h
  subst hq
  refine ⟨_, fun k => k = w.heap.size, (xi_rep bI x).off _ _ _ _ ((xi_rep bI x).tight _ _ h1) (Off.of_below (fun _ => False) hb) (fun _ _ x => x), ⟨none, 0, ⟨hx.box, own_base hx.row (Nat.zero_le _), Nat.zero_le _, hx.oks, hx.okl⟩, rfl, fun k ⟨a, e, _⟩ => by cases e⟩, fun k hk e => ?_, fun k hk => h4 k hk.1, fun k e => ?_, h6.trans (hb.mono h6.size)⟩
  · have := hk.2
    omega
  · have := h6.size
    omega
theorem Tw.xents {W w : World} {p : Nat} {x : Ix} {J : RepT} (h : Tw W (XI p x) J w) (hJ : Rep J) (hn : x.L.length ≤ 100000) : Calls Try.prog 16 #[.pointer (some ⟨p, 0, none⟩)] w (fun e w' => ∃ (A : Option Addr) (c : Nat), e = .returned (.slice A x.L.length c) ∧ Tw W (XI p x) J w' ∧ w'.ownsRow 0 39 3 (.slice A x.L.length c) x.L.length (tldC x.L)) := by
  have hc : Calls Try.prog 16 #[.pointer (some ⟨p, 0, none⟩)] w (GotEns w x.L) := by
    obtain ⟨S, T, ⟨A, c, h1, _⟩, _⟩ := h
    exact entries_c x A c 0 p w h1 hn
  refine hc.mono ?_
  rintro e w' ⟨A, c, rfl, hrow, hb⟩
  exact ⟨A, c, rfl, h.later (xi_rep p x) hJ hb, own_base hrow (Nat.zero_le _)⟩
structure EnP (W : World) (bI q : Nat) (x y : Ix) (A : Option Addr) (c : Nat) (w : World) : Prop where
  row : w.ownsRow 0 39 3 (.slice A x.L.length c) x.L.length (tldC x.L)
  tw : Tw W (XI bI x) (XI q y) w
theorem EnP.later {W w w' : World} {bI q c : Nat} {x y : Ix} {A : Option Addr} (h : EnP W bI q x y A c w) (hb : Below w.heap.size w w') : EnP W bI q x y A c w' := ⟨own_below h.row hb, h.tw.later (xi_rep bI x) (xi_rep q y) hb⟩
set_option maxHeartbeats 16000000 in
set_option maxRecDepth 100000 in
theorem indexSparse_walk (ev : Int) (L : List En) (A : Option Addr) (c : Nat) (W : World) (w0 : (Lit.int .i64 ev).wf = true) (hL : ItsIn W A L) (hlen : L.length ≤ 140737488351232) :
    Calls Try.prog 6 #[.int .i64 ev, .slice A L.length c] W (Yes W) := by
  have HL := Lib.hid (And.intro hL hlen)
  have hnew := new_c ev W
  have hnew1 := fun w => new_c 1 w
  unfold GotNew at hnew hnew1
  clear hL hlen w0
  by_cases hev : 1 ≤ ev ∧ ev ≤ 1000000
  · have HEV := Lib.hid hev
    go_enter Try.func6, Try.ntmps6
    go_wp2_with fail
    (with_reducible refine hnew.mono ?_)
    rintro e w1 ⟨_, hn⟩
    obtain ⟨rfl, hx, hb⟩ := hn hev
    have H1 : Hid (Tw W (XI W.heap.size ⟨ev, [], 0, 0, 0⟩) (fun _ _ => True) w1) := Lib.hid (Tw.start hx (Nat.le_refl _) hb)
    clear hn hx hb hnew hev
    go_wp2_with fail
    (with_reducible refine (hnew1 _).mono ?_)
    rintro e w2 ⟨_, hn⟩
    obtain ⟨rfl, hx, hb⟩ := hn (by omega)
    have H2 : Hid (Tw W (XI W.heap.size ⟨ev, [], 0, 0, 0⟩) (XI w1.heap.size ⟨1, [], 0, 0, 0⟩) w2) := Lib.hid (H1.out.beside2 hx rfl hb)
    clear hn hx hb hnew1 H1
    generalize w1.heap.size = q at *
    obtain ⟨bI, hbI⟩ : ∃ n, W.heap.size = n := ⟨_, rfl⟩
    rw [hbI] at H2
    have HBI := Lib.hid hbI
    rw [hbI]
    clear hbI
    go_wp2_with fail
    go_loopw [9, 10] (fun nv i wr => ∃ (k : Nat) (x y : Ix) (n : Nat), i = .int .i64 k ∧ k ≤ L.length ∧ k ≤ 80 ∧ nv = .int .i64 n ∧ x.L.length ≤ k ∧ y.L.length ≤ k ∧ n ≤ k ∧ Pa ev x y n ∧ Tw W (XI bI x) (XI q y) wr) (fun _ i _ => L.length - (intOf i).toNat)
    case atStart => exact ⟨0, ⟨ev, [], 0, 0, 0⟩, ⟨1, [], 0, 0, 0⟩, 0, rfl, Nat.zero_le _, by decide, rfl, Nat.le_refl _, Nat.le_refl _, Nat.le_refl _, Pa.start ev, H2.out⟩
    case round =>
      obtain ⟨k, x, y, n, rfl, hk, hk8, rfl, hxl, hyl, hnk, hP, hT⟩ := hrel
      clear H2
      have HT := Lib.hid hT
      have HP := Lib.hid hP
      clear hT hP
      by_cases hkl : k < L.length ∧ k < 80
      · obtain ⟨hk1, hk2⟩ := hkl
        have he := atE_some hk1
        generalize atE L k = e at *
        obtain ⟨o, p, t⟩ := e
        obtain ⟨b, of, rfl, hbl, q0, q1, q2⟩ := its_at HL.out.1 HT.out.bel he
        simp only at q0 q1 q2
        have xk : ∀ w I J, Tw W I J w → w.cell? ⟨b, of + k * 3, none⟩ = some (.int .i64 o) ∧ w.cell? ⟨b, of + k * 3 + 1, none⟩ = some (.int .i64 p) ∧ w.cell? ⟨b, of + k * 3 + 2, none⟩ = some (.int .i64 t) := fun w I J h => by
          obtain ⟨b', of', e1, hl', r0, r1, r2⟩ := its_at HL.out.1 h.bel he
          injection e1 with e1
          injection e1 with e1 e2
          subst e1 e2
          exact ⟨r0, r1, r2⟩
        have XK := Lib.hid xk
        have ca := (HT.out.later (xi_rep bI x) (xi_rep q y) (Below.refl _ _).drew).xadd (xi_rep q y) o p t (by omega)
        have cb := fun w (h : Tw W (XI bI (x.add o p t)) (XI q y) w) => (h.later (xi_rep bI _) (xi_rep q y) (Below.refl _ _).drew).xadd2 (xi_rep bI _) o p t (by omega)
        have hki : (k : Int) < (L.length : Int) := by omega
        have hk0 : (0 : Int) ≤ (k : Int) := by omega
        have hk80 : (k : Int) < 80 := by omega
        have HK := Lib.hid (And.intro hk1 hk2)
        have HXL : Hid ((x.add o p t).L.length ≤ k + 1 ∧ (y.add o p t).L.length ≤ k + 1) := Lib.hid (by have := x.add_len o p t; have := y.add_len o p t; omega)
        rw [← HP.out.addE o p t] at cb
        by_cases hok : x.addE o p t = 0
        · have hst := HP.out.step (Ix.addE_ok hok)
          rw [hok] at ca cb
          have HST := Lib.hid hst
          clear he hst hok hk1 hk2 xk HP
          generalize x.add o p t = x2 at *
          generalize y.add o p t = y2 at *
          go_wp2_with fail
          go_region_held3 (fun w => w.cell? ⟨b, of + k * 3, none⟩ = some (.int .i64 o) ∧ w.cell? ⟨b, of + k * 3 + 1, none⟩ = some (.int .i64 p) ∧ w.cell? ⟨b, of + k * 3 + 2, none⟩ = some (.int .i64 t))
            (first | exact ⟨q0, q1, q2⟩ | exact XK.out _ _ _ (by assumption))
            (first | ((with_reducible refine ca.mono ?_); rintro e w3 ⟨rfl, ht1⟩))
          have HT1 := Lib.hid ht1
          obtain ⟨r0, r1, r2⟩ := XK.out _ _ _ ht1
          have cb1 := cb _ ht1
          clear ht1 q0 q1 q2 cb
          go_wp2_with fail
          go_region_held3 (fun w => w.cell? ⟨b, of + k * 3, none⟩ = some (.int .i64 o) ∧ w.cell? ⟨b, of + k * 3 + 1, none⟩ = some (.int .i64 p) ∧ w.cell? ⟨b, of + k * 3 + 2, none⟩ = some (.int .i64 t))
            (first | exact ⟨r0, r1, r2⟩ | exact XK.out _ _ _ (by assumption))
            (first | ((with_reducible refine cb1.mono ?_); rintro e w4 ⟨rfl, ht2⟩))
          have HT2 := Lib.hid ht2
          clear ht2
          go_wp2_with fail
          go_roundw
          case rel => exact ⟨k + 1, x2, y2, n + 1, by go_num, HK.out.1, HK.out.2, by go_num, HXL.out.1, HXL.out.2, by omega, HST.out, HT2.out⟩
          case measure => simp [intOf]; omega
        · have hE : x.addE o p t = 1 := by
            unfold Ix.addE at hok ⊢
            split at hok
            · exact absurd rfl hok
            · rename_i h; rw [if_neg h]
          have hX := Ix.add_bad hok
          have hY := Ix.add_bad (x := y) (o := o) (p := p) (t := t) (by rw [← HP.out.addE]; exact hok)
          rw [hE, hX] at ca
          rw [hE, hX, hY] at cb
          clear he hok hE hX hY hk1 hk2 xk
          go_wp2_with fail
          go_region_held3 (fun w => w.cell? ⟨b, of + k * 3, none⟩ = some (.int .i64 o) ∧ w.cell? ⟨b, of + k * 3 + 1, none⟩ = some (.int .i64 p) ∧ w.cell? ⟨b, of + k * 3 + 2, none⟩ = some (.int .i64 t))
            (first | exact ⟨q0, q1, q2⟩ | exact XK.out _ _ _ (by assumption))
            (first | ((with_reducible refine ca.mono ?_); rintro e w3 ⟨rfl, ht1⟩))
          have HT1 := Lib.hid ht1
          obtain ⟨r0, r1, r2⟩ := XK.out _ _ _ ht1
          have cb1 := cb _ ht1
          clear ht1 q0 q1 q2 cb
          go_wp2_with fail
          go_region_held3 (fun w => w.cell? ⟨b, of + k * 3, none⟩ = some (.int .i64 o) ∧ w.cell? ⟨b, of + k * 3 + 1, none⟩ = some (.int .i64 p) ∧ w.cell? ⟨b, of + k * 3 + 2, none⟩ = some (.int .i64 t))
            (first | exact ⟨r0, r1, r2⟩ | exact XK.out _ _ _ (by assumption))
            (first | ((with_reducible refine cb1.mono ?_); rintro e w4 ⟨rfl, ht2⟩))
          have HT2 := Lib.hid ht2
          clear ht2
          go_wp2_with fail
          go_roundw
          case rel => exact ⟨k + 1, x, y, n, by go_num, HK.out.1, HK.out.2, rfl, Nat.le_succ_of_le hxl, Nat.le_succ_of_le hyl, Nat.le_succ_of_le hnk, HP.out, HT2.out⟩
          case measure => simp [intOf]; omega
      · have hstop : ¬ ((k : Int) < (L.length : Int)) ∨ (k : Int) < (L.length : Int) ∧ ¬ ((k : Int) < 80) := by omega
        have hx1 : x.L.length ≤ 100 := by omega
        have hy1 : y.L.length ≤ 100 := by omega
        have ce1 := (HT.out.xents (xi_rep q y) (by omega))
        have ce2 := fun w (h : Tw W (XI bI x) (XI q y) w) => h.swap.xents (xi_rep bI x) (by omega)
        have hok : ∀ e ∈ x.L, 0 ≤ e.2.1 ∧ e.2.1 ≤ 1099511627776 := by
          obtain ⟨S, T, ⟨A2, c2, hI, _⟩, _⟩ := HT.out
          exact fun e he => ixo_of (hI.oks e he).2
        have HOK := Lib.hid hok
        have k1 : x.L.length ≤ n := by have := HP.out.sub.length_le; have := HP.out.len; omega
        have k1' : (x.L.length : Int) ≤ (n : Int) := by omega
        have hyn : y.L.length = n := HP.out.len
        rw [hyn] at ce2
        have hn8 : n ≤ 80 := by omega
        clear hkl hk hk8 hxl hyl hy1 hnk hok hyn
        rcases hstop with hs | ⟨hs1, hs2⟩
        all_goals
          go_wp2_with fail
          (with_reducible refine ce1.mono ?_)
          rintro e w3 ⟨A3, c3, rfl, ht, hrow⟩
          have HE0 : Hid (EnP W bI q x y A3 c3 w3) := Lib.hid ⟨hrow, ht⟩
          clear ht ce1 hrow
          go_wp2_with fail
          go_loopw [14] (fun i wr => ∃ j : Nat, i = .int .i64 j ∧ 1 ≤ j ∧ j ≤ 200 ∧ EnP W bI q x y A3 c3 wr) (fun i _ => x.L.length - (intOf i).toNat)
          case atStart => exact ⟨1, rfl, Nat.le_refl _, by decide, HE0.out⟩
          case round =>
            obtain ⟨j, rfl, hj1, hj2, hE⟩ := hrel
            clear HE0
            have HE := Lib.hid hE
            clear hE
            by_cases hjl : j < x.L.length
            · obtain ⟨j', rfl⟩ : ∃ j', j = j' + 1 := ⟨j - 1, by omega⟩
              have he := atE_some (L := x.L) (i := j') (by omega)
              have hf := atE_some hjl
              obtain ⟨g1, hA1, p0, p1, p2, hg1, hc1⟩ := rx_entry HE.out.row he
              obtain ⟨g2, hA2, s0, s1, s2, hg2, hc2⟩ := rx_entry HE.out.row hf
              subst hA1
              injection hA2 with hA2
              injection hA2 with hA2 _
              subst hA2
              have hap := HP.out.apart _ _ _ he hf
              have hsr := HP.out.xw.1.le (Nat.le_succ j') he hf
              have hst := List.pairwise_iff_getElem.1 HP.out.xw.1 j' (j' + 1) (by omega) hjl (Nat.lt_succ_self _)
              have hst1 : (atE x.L j').1 < (atE x.L (j' + 1)).1 := by
                obtain ⟨a1, a2⟩ := List.getElem?_eq_some_iff.1 he
                obtain ⟨b1, b2⟩ := List.getElem?_eq_some_iff.1 hf
                rw [a2, b2] at hst
                exact hst.1
              have r1 := HOK.out _ (List.mem_of_getElem? he)
              have r2 := HOK.out _ (List.mem_of_getElem? hf)
              clear he hf hg1 hg2 hst
              generalize atE x.L j' = e at *
              generalize atE x.L (j' + 1) = f at *
              obtain ⟨o, p, t⟩ := e
              obtain ⟨o2, p2', t2⟩ := f
              simp only at p0 p1 p2 s0 s1 s2 hap hsr hst1 r1 r2
              have j0 : (0 : Int) ≤ (j' : Int) := by omega
              have jl1 : (j' : Int) < (x.L.length : Int) := by omega
              have jl2 : (j' : Int) + 1 < (x.L.length : Int) := by omega
              have g1' : IntKind.i64.wrap (p2' - p) = p2' - p := IntWalk.i64_in _ (by omega)
              have g3 : IntKind.i64.wrap (j' : Int) = (j' : Int) := IntWalk.i64_in _ (by omega)
              have n1 : decide (p2' - p < ev) = false := decide_eq_false (by omega)
              have n2 : decide (o2 ≤ o) = false := decide_eq_false (by omega)
              have n3 : decide (t2 < t) = false := decide_eq_false (by omega)
              have HE2 : Hid (∀ n, EnP W bI q x y (some ⟨g1, 0, none⟩) c3 (wr.drewN n)) := Lib.hid (fun n => HE.out.later ⟨rfl, rfl, rfl, Nat.le_refl _, fun _ _ => rfl⟩)
              clear hap hsr hst1 r1 r2
              go_wp2_with fail
              go_quiet (fail)
              go_wp2_with fail
              go_roundw
              case rel => exact ⟨j' + 1 + 1, by go_num, by omega, by omega, HE2.out _⟩
              case measure => simp [intOf]; omega
            · go_wp2_with fail
              (with_reducible refine (ce2 _ HE.out.tw).mono ?_)
              rintro e w4 ⟨A4, c4, rfl, ht, _⟩
              have HT4 := Lib.hid ht
              clear ht ce2
              go_wp2_with fail
              (with_reducible refine (live9_c _).mono ?_)
              rintro e w9 ⟨rfl, hb⟩
              have H9 := Lib.hid (HT4.out.bel.trans (hb.mono HT4.out.bel.size))
              clear hb
              go_wp2_with fail
              go_ret
              exact ⟨rfl, H9.out⟩
  · go_enter Try.func6, Try.ntmps6
    go_wp2_with fail
    (with_reducible refine hnew.mono ?_)
    rintro e w1 ⟨hn, _⟩
    obtain ⟨rfl, hw⟩ := hn hev
    have hw' := hw.symm
    subst hw'
    clear hn hw hnew hev
    go_wp2_with fail
    (with_reducible refine (hnew1 _).mono ?_)
    rintro e w2 ⟨_, hn⟩
    obtain ⟨rfl, _, hb1⟩ := hn (by omega)
    have HB1 := Lib.hid hb1
    clear hn hb1 hnew1
    go_wp2_with fail
    (with_reducible refine (live9_c _).mono ?_)
    rintro e w2 ⟨rfl, hb⟩
    have H2 := Lib.hid (HB1.out.trans (hb.mono HB1.out.size))
    clear hb
    go_wp2_with fail
    go_ret
    exact ⟨rfl, H2.out⟩
end Go.Proofs.Ytljgiabaekddlaa
