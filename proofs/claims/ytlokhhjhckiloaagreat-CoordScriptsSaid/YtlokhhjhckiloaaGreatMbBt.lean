/- member: one field of one member; Beat, Leave, by contracts. No condition but that numbers are small. -/
import Derived.Test.YtlokhhjhckiloaaGreatMbAdd
import Derived.RegionTactic
import Derived.Deep.RegionLaw
import Derived.BigRegion
import Derived.Deep.Cut
import Derived.Deep.CutRange
namespace Go.Proofs.YtlokhhjhckiloaaGreat
open Go.RowKit
set_option linter.unusedVariables false
theorem GrIs.field {w : World} {B p g c n : Nat} {R : List MV} {G : GD} {k : Nat} {x y : MV} (h : GrIs w B p (.slice (some ⟨g, 0, none⟩) n c) R G) (hn : R.length = n) (hx : R[k]? = some x) (i : Nat) (u : Value) (hi : i < 5) (he : (mvC x).set i u = mvC y)
    (ht : (y.tv = x.tv ∧ y.d.T = x.d.T) ∨ w.ownsRow B 9 1 y.tv y.d.T.length (strC y.d.T)) (hp : (y.pv = x.pv ∧ y.d.P = x.d.P) ∨ w.ownsRow B 34 2 y.pv y.d.P.length (prtC y.d.P)) :
    GrIs (w.setCell ⟨g, k * 5 + i, none⟩ u) B p (.slice (some ⟨g, 0, none⟩) n c) (R.set k y) { G with L := G.L.set k y.d } ∧ Off (GrS p (.slice (some ⟨g, 0, none⟩) n c)) w (w.setCell ⟨g, k * 5 + i, none⟩ u) := by
  subst hn
  have hl := (List.getElem?_eq_some_iff.1 hx).1
  have hr := h.row
  have hgp : g ≠ p := fun e => own_ne hr h.box (by decide) g rfl e
  have h3 := (hr.stored (k * 5 + i) u).1
  rw [mvR_set R k x hl y hx i u hi he] at h3
  have o := Off.one w ⟨g, k * 5 + i, none⟩ u
  have hb : Box (w.setCell ⟨g, k * 5 + i, none⟩ u) p _ _ := h.box.off o (fun e => hgp (show p = g from e).symm)
  have q : ∀ {t size n : Nat} {u' : Value} {xs : List Value}, w.ownsRow B t size u' n xs → t ≠ 95 → (w.setCell ⟨g, k * 5 + i, none⟩ u).ownsRow B t size u' n xs := fun hq hne => own_off hq o (fun j hj e => own_two hq hr hne j hj (by rw [show j = g from e]; rfl))
  have ho : Off (GrS p (.slice (some ⟨g, 0, none⟩) R.length c)) w (w.setCell ⟨g, k * 5 + i, none⟩ u) := o.mono (fun j _ e => .inr (by rw [show j = g from e]; rfl))
  refine ⟨h.rows2 (S := GrS p (.slice (some ⟨g, 0, none⟩) R.length c)) (G' := { G with L := G.L.set k y.d }) ho (fun j e => .inl e) hb (by rw [List.length_set]; exact h3) (fun z hz => ?_) ?_, ho⟩
  · rcases List.mem_or_eq_of_mem_set hz with hz | rfl
    · exact ⟨.inl ⟨z, hz, rfl, rfl⟩, .inl ⟨z, hz, rfl, rfl⟩⟩
    · refine ⟨?_, ?_⟩
      · rcases ht with ⟨e1, e2⟩ | ht
        · exact .inl ⟨x, List.mem_of_getElem? hx, e1.symm, e2.symm⟩
        · exact .inr (q ht (by decide))
      · rcases hp with ⟨e1, e2⟩ | hp
        · exact .inl ⟨x, List.mem_of_getElem? hx, e1.symm, e2.symm⟩
        · exact .inr (q hp (by decide))
  · rw [List.map_set, h.abs]
/-- A member's time. -/
def hearD (k : Nat) (now : Int) (G : GD) : GD := match G.L[k]? with | some x => { G with L := G.L.set k { x with u := now + G.ss } } | none => G
theorem GrIs.hear {w : World} {B p g c : Nat} {R : List MV} {G : GD} {k : Nat} (h : GrIs w B p (.slice (some ⟨g, 0, none⟩) R.length c) R G) (hk : k < R.length) (now : Int) :
    ∃ R', R'.length = R.length ∧ GrIs (w.setCell ⟨g, k * 5 + 2, none⟩ (.int .i64 (now + G.ss))) B p (.slice (some ⟨g, 0, none⟩) R.length c) R' (hearD k now G) ∧ Off (GrS p (.slice (some ⟨g, 0, none⟩) R.length c)) w (w.setCell ⟨g, k * 5 + 2, none⟩ (.int .i64 (now + G.ss))) := by
  obtain ⟨x, hx⟩ : ∃ x, R[k]? = some x := ⟨_, List.getElem?_eq_getElem hk⟩
  obtain ⟨h1, h2⟩ := h.field rfl hx (y := ⟨{ x.d with u := now + G.ss }, x.tv, x.pv⟩) 2 (.int .i64 (now + G.ss)) (by decide) rfl (.inl ⟨rfl, rfl⟩) (.inl ⟨rfl, rfl⟩)
  have hL : G.L[k]? = some x.d := by rw [← h.abs, List.getElem?_map, hx]; rfl
  have e : hearD k now G = { G with L := G.L.set k { x.d with u := now + G.ss } } := by unfold hearD; rw [hL]
  rw [e]
  exact ⟨_, by rw [List.length_set], h1, h2⟩
/-- The cells that a member's time wants. -/
def HrS (p g o : Nat) (ss u : Int) (w : World) : Prop := w.cell? ⟨p, 5, none⟩ = some (.int .i64 ss) ∧ w.cell? ⟨g, o, none⟩ = some (.int .i64 u) ∧ w.frozen? ⟨g, o, none⟩ = false ∧ p < w.heap.size ∧ g < w.heap.size
theorem HrS.later {p g o : Nat} {ss u : Int} {w w' : World} (h : w.cell? ⟨p, 5, none⟩ = some (.int .i64 ss) ∧ w.cell? ⟨g, o, none⟩ = some (.int .i64 u) ∧ w.frozen? ⟨g, o, none⟩ = false ∧ p < w.heap.size ∧ g < w.heap.size) (hb : Below w.heap.size w w') : w'.cell? ⟨p, 5, none⟩ = some (.int .i64 ss) ∧ w'.cell? ⟨g, o, none⟩ = some (.int .i64 u) ∧ w'.frozen? ⟨g, o, none⟩ = false ∧ p < w'.heap.size ∧ g < w'.heap.size :=
  ⟨(hb.cell (p := ⟨p, 5, none⟩) h.2.2.2.1).trans h.1, (hb.cell (p := ⟨g, o, none⟩) h.2.2.2.2).trans h.2.1, (World.frozen?_of_block (a := ⟨g, o, none⟩) (hb.block g h.2.2.2.2)).trans h.2.2.1, Nat.lt_of_lt_of_le h.2.2.2.1 hb.size, Nat.lt_of_lt_of_le h.2.2.2.2 hb.size⟩
theorem GrIs.hr {w : World} {B p g c : Nat} {R : List MV} {G : GD} {k : Nat} (h : GrIs w B p (.slice (some ⟨g, 0, none⟩) R.length c) R G) (hk : k < R.length) : ∃ u, w.cell? ⟨p, 5, none⟩ = some (.int .i64 G.ss) ∧ w.cell? ⟨g, k * 5 + 2, none⟩ = some (.int .i64 u) ∧ w.frozen? ⟨g, k * 5 + 2, none⟩ = false ∧ p < w.heap.size ∧ g < w.heap.size := by
  obtain ⟨x, hx⟩ : ∃ x, R[k]? = some x := ⟨_, List.getElem?_eq_getElem hk⟩
  obtain ⟨g', c', e, hgl, _, _, _, _, q2, _, _, hf⟩ := h.at_ hx
  injection e with e _ _
  injection e with e
  injection e with e
  subst e
  exact ⟨x.d.u, (h.box.cell 5).trans rfl, q2, hf _, h.box.lt, hgl⟩
/-- Beat. -/
def beatE (m gen now : Int) (G : GD) : Int := if timeB now = true then (if nameE m gen G = 0 then (if G.ph = 3 then 0 else 13) else nameE m gen G) else 1
def beatD (m gen now : Int) (G : GD) : GD := if timeB now = true ∧ nameE m gen G = 0 then (match posM m G.L with | some k => hearD k now G | none => G) else G
theorem beat_nil (m gen now : Int) (W : World) : Calls Tryz.prog 48 #[.pointer none, .int .i64 m, .int .i64 gen, .int .i64 now] W (fun e w' => e = .returned (.int .i64 1) ∧ w' = W) := by
  have ct := fun w => takes_nil now w
  go_enter Tryz.func48, Tryz.ntmps48
  go_wp2_with fail
  with_reducible refine (ct _).mono ?_
  rintro e w1 ⟨rfl, rfl⟩
  go_wp2_with fail
  go_ret
  exact ⟨rfl, rfl⟩
theorem name_pos {m gen : Int} {G : GD} (h : nameE m gen G = 0) : ∃ k, posM m G.L = some k := by
  unfold nameE at h
  cases hp : posM m G.L with
  | none => rw [hp] at h; cases h
  | some k => exact ⟨k, rfl⟩
set_option maxHeartbeats 4000000 in
set_option maxRecDepth 100000 in
theorem beat_c (B p : Nat) (v : Value) (R : List MV) (G : GD) (m gen now : Int) (W : World) (h : GrIs W B p v R G) (hG : GBd G) :
    Calls Tryz.prog 48 #[.pointer (some ⟨p, 0, none⟩), .int .i64 m, .int .i64 gen, .int .i64 now] W (Wr B p v W (beatD m gen now G) (.int .i64 (beatE m gen now G))) := by
  have ct := fun w => takes_c p now w
  have cn := names_c B p v R G m gen W h hG.len
  have HI := Lib.hid h
  unfold beatE beatD
  cases ht : timeB now with
  | false =>
    rw [ht] at ct
    rw [if_neg (fun e => absurd e.1 (by decide)), if_neg (by decide)]
    clear h hG ht
    go_enter Tryz.func48, Tryz.ntmps48
    go_wp2_with fail
    with_reducible refine (ct _).mono ?_
    rintro e w1 ⟨rfl, hw⟩
    subst hw
    go_wp2_with fail
    go_ret
    exact Wr.mk HI.out (Off.refl _ _) (fun k hk => .inl hk)
  | true =>
    rw [ht] at ct
    rw [if_pos rfl]
    by_cases hE : nameE m gen G = 0
    · rw [hE] at cn
      obtain ⟨k, hk⟩ := name_pos hE
      rw [if_pos ⟨rfl, hE⟩, if_pos hE, hk]
      have cf := fun w (hb : Below W.heap.size W w) => find_c B p v R G m w (h.later hb) hG.len
      obtain ⟨g, c, ev, ef, hkR⟩ := findV_some h hk
      rw [ef] at cf
      have ⟨hn0, hn9⟩ := time_bd ht
      have hss := hG.ss
      subst ev
      dsimp only
      obtain ⟨b0, b1, b2, b3, b4, b5, b6, bl, _⟩ := gr7 h.box
      clear h hE hG ht hk ef
      by_cases hph : G.ph = 3
      · rw [if_pos hph]
        have hph' : (G.ph == 3) = true := by rw [hph]; rfl
        clear hph
        go_enter Tryz.func48, Tryz.ntmps48
        go_wp2_with fail
        with_reducible refine (ct _).mono ?_
        rintro e w1 ⟨rfl, hw⟩
        subst hw
        go_wp2_with fail
        with_reducible refine cn.mono ?_
        rintro e w1 ⟨rfl, hb1⟩
        have h1 := HI.out.later hb1
        have HB1 := Lib.hid hb1
        have cf1 := cf _ (hb1.trans (((Below.refl w1.heap.size w1).drew).mono hb1.size))
        clear cf ct cn
        go_wp2_with fail
        have HK := Lib.hid hkR
        obtain ⟨u, hS⟩ := h1.hr hkR
        clear h1 hb1 b0 b1 b2 b3 b4 b5 b6 bl
        generalize hi5 : k * 5 = i5 at *
        obtain ⟨s1, s2, s3, s4, s5⟩ := hS
        obtain ⟨d1, d2, d3, d4, d5⟩ := HrS.later ⟨s1, s2, s3, s4, s5⟩ ((Below.refl _ _).drew)
        go_region_law (first | (go_simp; go_at_call 68; (with_reducible refine cf1.mono ?_); rintro en w3 ⟨rfl, hb3⟩; (obtain ⟨e1, e2, e3, e4, e5⟩ := HrS.later ⟨d1, d2, d3, d4, d5⟩ hb3)))
        all_goals
          have hw : IntKind.i64.wrap (now + G.ss) = now + G.ss := by rw [IntKind.wrap_i64]; omega
          rw [hw]
          have h3 := HI.out.later (HB1.out.trans ((((Below.refl w1.heap.size w1).drew).trans hb3).mono HB1.out.size))
          obtain ⟨R', hl', h4, o4⟩ := h3.hear HK.out now
          have hph2 : (hearD k now G).ph = G.ph := by unfold hearD; split <;> rfl
          have H4 := Lib.hid h4
          have O4 := Lib.hid ((Off.of_below (GrS p (.slice (some ⟨g, 0, none⟩) R.length c)) (HB1.out.trans ((((Below.refl w1.heap.size w1).drew).trans hb3).mono HB1.out.size))).trans o4 (fun k _ e => e))
          obtain ⟨z0, z1, z2, z3, z4, z5, z6, zl, _⟩ := gr7 h4.box
          rw [hph2] at z0
          have HR := Lib.hid hl'
          clear h3 h4 o4 hph2 hw s1 s2 s3 s4 s5 d1 d2 d3 d4 d5 e1 e2 e3 e4 e5 hb3 cf1 hl'
          rw [hi5] at z0 z1 z2 z3 z4 z5 z6 zl
          go_wp2_with fail
          go_ret
          exact ⟨rfl, .slice (some ⟨g, 0, none⟩) R.length c, R', by rw [← hi5]; exact H4.out, by rw [← hi5]; exact O4.out, fun k hk => .inl hk⟩
      · rw [if_neg hph]
        have hph' : (G.ph == 3) = false := beq_eq_false_iff_ne.2 hph
        clear hph
        go_enter Tryz.func48, Tryz.ntmps48
        go_wp2_with fail
        with_reducible refine (ct _).mono ?_
        rintro e w1 ⟨rfl, hw⟩
        subst hw
        go_wp2_with fail
        with_reducible refine cn.mono ?_
        rintro e w1 ⟨rfl, hb1⟩
        have h1 := HI.out.later hb1
        have HB1 := Lib.hid hb1
        have cf1 := cf _ (hb1.trans (((Below.refl w1.heap.size w1).drew).mono hb1.size))
        clear cf ct cn
        go_wp2_with fail
        have HK := Lib.hid hkR
        obtain ⟨u, hS⟩ := h1.hr hkR
        clear h1 hb1 b0 b1 b2 b3 b4 b5 b6 bl
        generalize hi5 : k * 5 = i5 at *
        obtain ⟨s1, s2, s3, s4, s5⟩ := hS
        obtain ⟨d1, d2, d3, d4, d5⟩ := HrS.later ⟨s1, s2, s3, s4, s5⟩ ((Below.refl _ _).drew)
        go_region_law (first | (go_simp; go_at_call 68; (with_reducible refine cf1.mono ?_); rintro en w3 ⟨rfl, hb3⟩; (obtain ⟨e1, e2, e3, e4, e5⟩ := HrS.later ⟨d1, d2, d3, d4, d5⟩ hb3)))
        all_goals
          have hw : IntKind.i64.wrap (now + G.ss) = now + G.ss := by rw [IntKind.wrap_i64]; omega
          rw [hw]
          have h3 := HI.out.later (HB1.out.trans ((((Below.refl w1.heap.size w1).drew).trans hb3).mono HB1.out.size))
          obtain ⟨R', hl', h4, o4⟩ := h3.hear HK.out now
          have hph2 : (hearD k now G).ph = G.ph := by unfold hearD; split <;> rfl
          have H4 := Lib.hid h4
          have O4 := Lib.hid ((Off.of_below (GrS p (.slice (some ⟨g, 0, none⟩) R.length c)) (HB1.out.trans ((((Below.refl w1.heap.size w1).drew).trans hb3).mono HB1.out.size))).trans o4 (fun k _ e => e))
          obtain ⟨z0, z1, z2, z3, z4, z5, z6, zl, _⟩ := gr7 h4.box
          rw [hph2] at z0
          have HR := Lib.hid hl'
          clear h3 h4 o4 hph2 hw s1 s2 s3 s4 s5 d1 d2 d3 d4 d5 e1 e2 e3 e4 e5 hb3 cf1 hl'
          rw [hi5] at z0 z1 z2 z3 z4 z5 z6 zl
          go_wp2_with fail
          go_ret
          exact ⟨rfl, .slice (some ⟨g, 0, none⟩) R.length c, R', by rw [← hi5]; exact H4.out, by rw [← hi5]; exact O4.out, fun k hk => .inl hk⟩
    · rw [if_neg (fun e => hE e.2), if_neg hE]
      have hE' : (nameE m gen G == 0) = false := beq_eq_false_iff_ne.2 hE
      obtain ⟨q, hq⟩ : ∃ q, nameE m gen G = q := ⟨_, rfl⟩
      rw [hq] at cn hE' ⊢
      clear h hG ht hE hq
      go_enter Tryz.func48, Tryz.ntmps48
      go_wp2_with fail
      with_reducible refine (ct _).mono ?_
      rintro e w1 ⟨rfl, hw⟩
      subst hw
      go_wp2_with fail
      with_reducible refine cn.mono ?_
      rintro e w1 ⟨rfl, hb1⟩
      go_wp2_with fail
      go_ret
      exact Wr.mk (HI.out.later hb1) (Off.of_below _ hb1) (fun k hk => .inl hk)
end Go.Proofs.YtlokhhjhckiloaaGreat
