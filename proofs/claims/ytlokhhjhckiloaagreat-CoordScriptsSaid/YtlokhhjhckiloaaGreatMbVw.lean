/- member: View, by a contract. No condition but that numbers are small. -/
import Derived.Test.YtlokhhjhckiloaaGreatMbSy
namespace Go.Proofs.YtlokhhjhckiloaaGreat
open Go.RowKit
set_option linter.unusedVariables false
/-- What View gives: numbers, and members in a row of its own. -/
def GotVw (W : World) (ph gn nx un : Int) (L : List MD) (e : Ending) (w' : World) : Prop :=
  ∃ v R, e = .returned (.agg #[.int .i64 ph, .int .i64 gn, .int .i64 nx, .int .i64 un, v]) ∧ w'.ownsRow W.heap.size 95 5 v R.length (mvR R) ∧ (∀ x ∈ R, MvOk w' W.heap.size x) ∧ R.map MV.d = L ∧ Below W.heap.size W w'
theorem view_result {w : World} (g : Nat) {v0 v1 v2 v3 v4 : Value} (h : Box w g 57 #[v0, v1, v2, v3, v4]) (tmps : Array Value) (ht : (tmps[2]?).getD undef = .pointer (some ⟨g, 0, none⟩)) :
    (results Tryz.f42 tmps).run Tryz.prog w = .ok (.agg #[v0, v1, v2, v3, v4]) w := by
  have c0 := (h.cell 0).trans (show _ = some v0 from rfl)
  have c1 := (h.cell 1).trans (show _ = some v1 from rfl)
  have c2 := (h.cell 2).trans (show _ = some v2 from rfl)
  have c3 := (h.cell 3).trans (show _ = some v3 from rfl)
  have c4 := (h.cell 4).trans (show _ = some v4 from rfl)
  simp [results, Tryz.results42, go_sem, ht, c0, c1, c2, c3, c4]
theorem vw5 {w : World} {b : Nat} {t : TypeId} {v0 v1 v2 v3 v4 : Value} (h : Box w b t #[v0, v1, v2, v3, v4]) : (w.cell? ⟨b, 0, none⟩ = some v0 ∧ w.cell? ⟨b, 1, none⟩ = some v1 ∧ w.cell? ⟨b, 2, none⟩ = some v2 ∧ w.cell? ⟨b, 3, none⟩ = some v3 ∧ w.cell? ⟨b, 4, none⟩ = some v4) ∧ b < w.heap.size ∧ w.frozen? ⟨b, 0, none⟩ = false ∧ w.frozen? ⟨b, 1, none⟩ = false ∧ w.frozen? ⟨b, 2, none⟩ = false ∧ w.frozen? ⟨b, 3, none⟩ = false ∧ w.frozen? ⟨b, 4, none⟩ = false :=
  ⟨⟨(h.cell 0).trans rfl, (h.cell 1).trans rfl, (h.cell 2).trans rfl, (h.cell 3).trans rfl, (h.cell 4).trans rfl⟩, h.lt, h.frozen 0, h.frozen 1, h.frozen 2, h.frozen 3, h.frozen 4⟩
theorem view_nil (W : World) : Calls Tryz.prog 42 #[.pointer none] W (GotVw W 0 0 0 0 []) := by
  have hbx := Box.new W 57 #[.int .i64 0, .int .i64 0, .int .i64 0, .int .i64 0, .slice none 0 0]
  have hB : Below W.heap.size W (W.alloc (.cells #[.int .i64 0, .int .i64 0, .int .i64 0, .int .i64 0, .slice none 0 0] 57)) := (Below.refl _ _).alloc (Nat.le_refl _) _
  have HX := Lib.hid hbx
  have HB := Lib.hid hB
  clear hbx hB
  go_enter Tryz.func42, Tryz.ntmps42
  go_wp2_with fail
  refine bodyPost_ret (view_result W.heap.size HX.out _ rfl) rfl ?_
  exact ⟨_, [], rfl, World.ownsRow_nil _ _ _ _, (fun x hx => by cases hx), rfl, HB.out⟩
/-- Viewing under way. -/
structure VwS (W : World) (G : GD) (k : Nat) (v : Value) (R : List MV) (w : World) : Prop where
  b2 : Box w W.heap.size 57 #[.int .i64 0, .int .i64 0, .int .i64 0, .int .i64 0, .slice none 0 0]
  b3 : Box w (W.heap.size + 1) 57 #[.int .i64 G.ph, .int .i64 G.gn, .int .i64 G.nx, .int .i64 G.un, v]
  row : w.ownsRow (W.heap.size + 2) 95 5 v R.length (mvR R)
  all : ∀ x ∈ R, MvOk w W.heap.size x
  abs : R.map MV.d = G.L.take k
  bel : Below W.heap.size W w
theorem VwS.later {W : World} {G : GD} {k : Nat} {v : Value} {R : List MV} {w w' : World} (h : VwS W G k v R w) (hb : Below w.heap.size w w') : VwS W G k v R w' := ⟨h.b2.later hb, h.b3.later hb, own_below h.row hb, fun x hx => (h.all x hx).later hb, h.abs, h.bel.trans (hb.mono h.bel.size)⟩
/-- A store into a block that is new to the view. -/
theorem VwS.far {W : World} {G : GD} {k : Nat} {v : Value} {R : List MV} {w : World} (h : VwS W G k v R w) (b i : Nat) (u : Value) (hb : W.heap.size + 2 ≤ b) (hr : v.ownBlock ≠ some b) (ht : ∀ x ∈ R, x.tv.ownBlock ≠ some b ∧ x.pv.ownBlock ≠ some b) : VwS W G k v R (w.setCell ⟨b, i, none⟩ u) := by
  have o := Off.one w ⟨b, i, none⟩ u
  refine ⟨h.b2.off o (fun e => by have e' : W.heap.size = b := e; omega), h.b3.off o (fun e => by have e' : W.heap.size + 1 = b := e; omega), own_off h.row o (fun j hj e => hr (by rw [hj]; exact congrArg some e)), fun x hx => (h.all x hx).off o (fun j hj e => (ht x hx).1 (by rw [hj]; exact congrArg some e)) (fun j hj e => (ht x hx).2 (by rw [hj]; exact congrArg some e)), h.abs, ?_⟩
  exact h.bel.trans (o.below h.bel.size (fun j hj => by have e' : j = b := hj; omega))
/-- One member more. -/
theorem VwS.grow {W : World} {G : GD} {k : Nat} {v v' : Value} {R : List MV} {w w' : World} {x : MV} (h : VwS W G k v R w) (hx : G.L[k]? = some x.d) (hok : MvOk w W.heap.size x) (hr : w'.ownsRow (W.heap.size + 2) 95 5 v' (R.length + 1) (mvR R ++ mvC x)) (hg : w.grownBy w' v.ownBlock) :
    VwS W G (k + 1) v' (R ++ [x]) (w'.setCell ⟨W.heap.size + 1, 4, none⟩ v') := by
  have o := Off.one w' ⟨W.heap.size + 1, 4, none⟩ v'
  have og : Off (fun j => v.ownBlock = some j) w w' := (Off.refl _ w).grown hg (fun j e _ => e)
  have hb2 := h.b2.off og (fun e => by have := (h.row.lt _ e).1; omega)
  have hb3 := h.b3.off og (fun e => by have := (h.row.lt _ e).1; omega)
  have q : ∀ {t size n : Nat} {u : Value} {xs : List Value}, w.ownsRow W.heap.size t size u n xs → t ≠ 57 → t ≠ 95 → (w'.setCell ⟨W.heap.size + 1, 4, none⟩ v').ownsRow W.heap.size t size u n xs := fun hq hne hn2 => by
    have h1 := own_off hq og (fun j hj e => own_two hq h.row hn2 j hj e)
    exact own_off h1 o (fun j hj e => own_ne h1 hb3 (fun e => hne e.symm) j hj e)
  refine ⟨hb2.off o (fun e => by have e' : W.heap.size = W.heap.size + 1 := e; omega), hb3.set 4 v', ?_, fun y hy => ?_, ?_, ?_⟩
  · rw [List.length_append, mvR_app]
    exact own_off hr o (fun j hj e => own_ne hr hb3 (by decide) j hj e)
  · have : MvOk w W.heap.size y := by
      rcases List.mem_append.1 hy with hy | hy
      · exact h.all y hy
      · have : y = x := by simpa using hy
        subst this
        exact hok
    exact ⟨q this.tr (by decide) (by decide), q this.pr (by decide) (by decide)⟩
  · rw [List.map_append, h.abs, List.take_add_one, hx]; rfl
  · exact (h.bel.trans (og.below h.bel.size (fun j hj => by have := (h.row.lt _ hj).1; omega))).trans (o.below (Nat.le_trans h.bel.size og.size) (fun j hj => by have e' : j = W.heap.size + 1 := hj; omega))
set_option maxHeartbeats 8000000 in
set_option maxRecDepth 100000 in
theorem view_c (B p : Nat) (v : Value) (R : List MV) (G : GD) (W : World) (h : GrIs W B p v R G) (hl : G.L.length ≤ 100000) (hz : ∀ x ∈ G.L, (x.T.length ≤ 100000 ∧ ∀ s ∈ x.T, s.size ≤ 281474976710656) ∧ x.P.length ≤ 100000 ∧ ∀ t ∈ x.P, t.1.size ≤ 281474976710656) :
    Calls Tryz.prog 42 #[.pointer (some ⟨p, 0, none⟩)] W (GotVw W G.ph G.gn G.nx G.un G.L) := by
  have hlen := h.len
  have hlR : R.length ≤ 100000 := by omega
  obtain ⟨i0, hi, hz0, hz1, hz2⟩ := info_parts oneInfo
  have hA1 : Below W.heap.size W (W.alloc (.cells #[.int .i64 0, .int .i64 0, .int .i64 0, .int .i64 0, .slice none 0 0] 57)) := (Below.refl _ _).alloc (Nat.le_refl _) _
  have hA2 : Below (W.alloc (.cells #[.int .i64 0, .int .i64 0, .int .i64 0, .int .i64 0, .slice none 0 0] 57)).heap.size (W.alloc (.cells #[.int .i64 0, .int .i64 0, .int .i64 0, .int .i64 0, .slice none 0 0] 57)) ((W.alloc (.cells #[.int .i64 0, .int .i64 0, .int .i64 0, .int .i64 0, .slice none 0 0] 57)).alloc (.cells #[.int .i64 G.ph, .int .i64 G.gn, .int .i64 G.nx, .int .i64 G.un, .slice none 0 0] 57)) := (Below.refl _ _).alloc (Nat.le_refl _) _
  have hbx2 := (Box.new W 57 #[.int .i64 0, .int .i64 0, .int .i64 0, .int .i64 0, .slice none 0 0]).later hA2
  have hbx3 := Box.new (W.alloc (.cells #[.int .i64 0, .int .i64 0, .int .i64 0, .int .i64 0, .slice none 0 0] 57)) 57 #[.int .i64 G.ph, .int .i64 G.gn, .int .i64 G.nx, .int .i64 G.un, .slice none 0 0]
  rw [World.size_alloc] at hbx3
  have HST : Hid (VwS W G 0 (.slice none 0 0) [] ((W.alloc (.cells #[.int .i64 0, .int .i64 0, .int .i64 0, .int .i64 0, .slice none 0 0] 57)).alloc (.cells #[.int .i64 G.ph, .int .i64 G.gn, .int .i64 G.nx, .int .i64 G.un, .slice none 0 0] 57))) := Lib.hid ⟨hbx2, hbx3, World.ownsRow_nil _ _ _ _, (fun x hx => by cases hx), rfl, hA1.trans (hA2.mono (by simp))⟩
  have h1 := h.later hA1
  obtain ⟨b0, b1, b2, b3, b4, b5, b6, bl, _⟩ := gr7 h1.box
  obtain ⟨d0, d1, d2, d3, d4, d5, d6, dl, _⟩ := gr7 (h1.later hA2).box
  obtain ⟨A, c, hv⟩ := own_slice h.row
  subst hv
  have HI := Lib.hid h
  have HZ := Lib.hid hz
  clear h h1 hA1 hA2 hbx2 hbx3 hz hl hlen
  go_enter Tryz.func42, Tryz.ntmps42
  go_wp2_with fail
  go_loopw [5, 20] (fun _ j wr => ∃ (k : Nat) (v : Value) (Rv : List MV), j = .int .i64 k ∧ k ≤ R.length ∧ Rv.length = k ∧ VwS W G k v Rv wr) (fun _ j _ => R.length - (intOf j).toNat)
  case atStart => exact ⟨0, .slice none 0 0, [], rfl, Nat.zero_le _, rfl, HST.out⟩
  case round =>
    obtain ⟨k, v, Rv, rfl, hkl, hRv, hV⟩ := hrel
    clear HST b0 b1 b2 b3 b4 b5 b6 bl d0 d1 d2 d3 d4 d5 d6 dl
    obtain ⟨vB, vc, ev⟩ := own_slice hV.row
    subst ev
    have HV := Lib.hid hV
    have HRv := Lib.hid hRv
    clear hV hRv
    by_cases hk : k < R.length
    · obtain ⟨x, hx⟩ : ∃ x, R[k]? = some x := ⟨_, List.getElem?_eq_getElem hk⟩
      have hI := HI.out.later HV.out.bel
      obtain ⟨g, c', e, hgl, _, hgp, q0, q1, q2, q3, q4, _⟩ := hI.at_ hx
      injection e with e en ec
      subst e
      clear en ec
      have hL : G.L[k]? = some x.d := by rw [← HI.out.abs, List.getElem?_map, hx]; rfl
      obtain ⟨⟨zt1, zt2⟩, zp1, zp2⟩ := HZ.out x.d (List.mem_of_getElem? hL)
      have hok := hI.all x (List.mem_of_getElem? hx)
      have HL := Lib.hid hL
      have HN : Hid (∀ y ∈ Rv, y.tv.ownBlock ≠ some wr.heap.size ∧ y.pv.ownBlock ≠ some wr.heap.size) := Lib.hid (fun y hy => ⟨fun e => by have := ((HV.out.all y hy).tr.lt _ e).2; omega, fun e => by have := ((HV.out.all y hy).pr.lt _ e).2; omega⟩)
      have HNr : Hid ((Value.slice vB Rv.length vc).ownBlock ≠ some wr.heap.size) := Lib.hid (fun e => by have := (HV.out.row.lt _ e).2; omega)
      have HB2 : Hid (W.heap.size + 2 ≤ wr.heap.size) := Lib.hid (by have := HV.out.b3.lt; omega)
      obtain ⟨tA, tc, et⟩ := own_slice hok.tr
      obtain ⟨pA, pc, ep⟩ := own_slice hok.pr
      have hsin := (str_in hok.tr rfl).2
      have hpin := prt_in (by have := hok.pr; rw [ep] at this; exact this)
      rw [et] at hsin
      obtain ⟨⟨n, T, u, jj, P⟩, tv, pv⟩ := x
      dsimp only at *
      subst et; subst ep
      have hki : (k : Int) < (R.length : Int) := by omega
      have hA : Below wr.heap.size wr (wr.alloc (.cells #[.int .i64 n, .slice tA T.length tc, .int .i64 u, .bool jj, .slice pA P.length pc] 95)) := (Below.refl _ _).alloc (Nat.le_refl _) _
      have hbx := Box.new wr 95 #[.int .i64 n, .slice tA T.length tc, .int .i64 u, .bool jj, .slice pA P.length pc]
      have HVa := Lib.hid (HV.out.later hA)
      have HX := Lib.hid hbx
      have HP := Lib.hid (hpin.below hA)
      have HP0 := Lib.hid hpin
      have HA := Lib.hid hA
      have cct := ctexts_c T tA tc _ (hsin.below hA) zt1 zt2
      obtain ⟨⟨y0, y1, y2, y3, y4⟩, yl, w0, w1f, w2f, w3f, w4f⟩ := vw5 hbx
      clear hI hok hsin hpin hL hA hbx hx
      have hgl2 : g < wr.heap.size := hgl
      generalize hi5 : k * 5 = i5 at *
      go_wp2_with fail
      with_reducible refine cct.mono ?_
      rintro en w4 ⟨A4, c4, rfl, hown4, hb4⟩
      have hV4 := HVa.out.later hb4
      have hX4 := HX.out.later hb4
      have hP4 := HP.out.below hb4
      have hl4 : wr.heap.size < w4.heap.size := hX4.lt
      obtain ⟨⟨y0, y1, y2, y3, y4⟩, yl, w0, w1f, w2f, w3f, w4f⟩ := vw5 hX4
      have o4 := Off.one w4 ⟨wr.heap.size, 1, none⟩ (.slice A4 T.length c4)
      have HV5 := Lib.hid (hV4.far wr.heap.size 1 (.slice A4 T.length c4) HB2.out HNr.out HN.out)
      have HX5 := Lib.hid (hX4.set 1 (.slice A4 T.length c4))
      have hBx4 : Below wr.heap.size wr (w4.setCell ⟨wr.heap.size, 1, none⟩ (.slice A4 T.length c4)) := (HA.out.trans (hb4.mono HA.out.size)).trans (o4.below (Nat.le_trans HA.out.size hb4.size) (fun j hj => by have e' : j = wr.heap.size := hj; omega))
      have hT5 := own_off hown4 o4 (fun j hj e => own_ne hown4 hX4 (by decide) j hj e)
      have HT5 := Lib.hid hT5
      have HSW : Hid (W.heap.size ≤ (wr.alloc (.cells #[.int .i64 n, .slice tA T.length tc, .int .i64 u, .bool jj, .slice pA P.length pc] 95)).heap.size ∧ W.heap.size ≤ (w4.setCell ⟨wr.heap.size, 1, none⟩ (.slice A4 T.length c4)).heap.size) := Lib.hid ⟨Nat.le_trans HV.out.bel.size HA.out.size, Nat.le_trans HV.out.bel.size hBx4.size⟩
      have ccp := cparts_c P pA pc _ (HP0.out.below hBx4) zp1 zp2
      clear hV4 hX4 hP4 o4 hBx4 hT5 hown4 hb4 cct
      go_wp2_with fail
      with_reducible refine ccp.mono ?_
      rintro en w6 ⟨A6, c6, rfl, hown6, hb6⟩
      have hV6 := HV5.out.later hb6
      have hX6 := HX5.out.later hb6
      have hT6 := own_below HT5.out hb6
      have hl6 : wr.heap.size < w6.heap.size := hX6.lt
      obtain ⟨⟨y0, y1, y2, y3, y4⟩, yl, w0, w1f, w2f, w3f, w4f⟩ := vw5 hX6
      have o6 := Off.one w6 ⟨wr.heap.size, 4, none⟩ (.slice A6 P.length c6)
      have hA8 : Below (w6.setCell ⟨wr.heap.size, 4, none⟩ (.slice A6 P.length c6)).heap.size (w6.setCell ⟨wr.heap.size, 4, none⟩ (.slice A6 P.length c6)) ((w6.setCell ⟨wr.heap.size, 4, none⟩ (.slice A6 P.length c6)).alloc (.cells #[.int .i64 n, .slice A4 T.length c4, .int .i64 u, .bool jj, .slice A6 P.length c6] 95)) := (Below.refl _ _).alloc (Nat.le_refl _) _
      have hV7 := hV6.far wr.heap.size 4 (.slice A6 P.length c6) HB2.out HNr.out HN.out
      have hV8 := hV7.later hA8
      have hX7 := hX6.set 4 (.slice A6 P.length c6)
      have hok8 : Hid (MvOk ((w6.setCell ⟨wr.heap.size, 4, none⟩ (.slice A6 P.length c6)).alloc (.cells #[.int .i64 n, .slice A4 T.length c4, .int .i64 u, .bool jj, .slice A6 P.length c6] 95)) W.heap.size ⟨⟨n, T, u, jj, P⟩, .slice A4 T.length c4, .slice A6 P.length c6⟩) := Lib.hid ⟨own_base2 (own_below (own_off hT6 o6 (fun j hj e => own_ne hT6 hX6 (by decide) j hj e)) hA8) HSW.out.1, own_base2 (own_below (own_off hown6 o6 (fun j hj e => own_ne hown6 hX6 (by decide) j hj e)) hA8) HSW.out.2⟩
      obtain ⟨⟨s0, s1, s2, s3, s4⟩, sl, t0, t1, t2, t3, t4⟩ := vw5 hV7.b3
      obtain ⟨⟨y0', y1', y2', y3', y4'⟩, yl', _, _, _, _, _⟩ := vw5 hX7
      have hnews := news_at (Box.new (w6.setCell ⟨wr.heap.size, 4, none⟩ (.slice A6 P.length c6)) 95 #[.int .i64 n, .slice A4 T.length c4, .int .i64 u, .bool jj, .slice A6 P.length c6])
      have hrow8 := hV8.row
      have hsz8 : W.heap.size + 2 ≤ ((w6.setCell ⟨wr.heap.size, 4, none⟩ (.slice A6 P.length c6)).alloc (.cells #[.int .i64 n, .slice A4 T.length c4, .int .i64 u, .bool jj, .slice A6 P.length c6] 95)).heap.size := by have := hV8.b3.lt; omega
      have hRl : Rv.length ≤ 100000 := by have := HRv.out; omega
      have HV8 := Lib.hid hV8
      rw [show (w6.setCell ⟨wr.heap.size, 4, none⟩ (.slice A6 P.length c6)).heap.size = w6.heap.size by simp] at hnews
      clear hV6 hX6 hT6 hown6 hb6 o6 hA8 hV7 hV8 hX7 ccp HN HNr HP0 hki
      go_wp2_with (at_builtin; refine wpList_append_own_at _ rfl _ _ 55 rfl (W.heap.size + 2) 95 i0 (.agg #[.int .i64 0, .slice none 0 0, .int .i64 0, .bool false, .slice none 0 0]) 5 72 Tryz.underlying55 hi hz0 hz1 hz2 rfl (by decide) (.slice vB Rv.length vc) Rv.length (mvR Rv) rfl hrow8 ⟨w6.heap.size, 0, none⟩ 1 1 [.int .i64 n, .slice A4 T.length c4, .int .i64 u, .bool jj, .slice A6 P.length c6] rfl rfl hnews (by simp [Value.oneCell']) (by unfold maxLen; omega) (by omega) hsz8 ?_)
      intro v' w9 hown' hgrow _ _
      obtain ⟨B9, c9, rfl⟩ := own_slice hown'
      have hb3 := HV8.out.b3.off ((Off.refl (fun j => (Value.slice vB Rv.length vc).ownBlock = some j) _).grown hgrow (fun j e _ => e)) (fun e => by have := (HV8.out.row.lt _ e).1; omega)
      obtain ⟨⟨r0, r1, r2, r3, r4⟩, rl, u0, u1, u2, u3, u4⟩ := vw5 hb3
      have HG := Lib.hid (HV8.out.grow HL.out hok8.out hown' hgrow)
      clear hown' hgrow hb3 hnews hrow8 hsz8 s0 s1 s2 s3 s4 sl t0 t1 t2 t3 t4 y0 y1 y2 y3 y4 y0' y1' y2' y3' y4' yl yl' q0 q1 q2 q3 q4
      go_wp2_with fail
      go_roundw
      case rel => exact ⟨k + 1, _, _, by go_num, hk, by rw [List.length_append, HRv.out]; rfl, HG.out⟩
      case measure => simp [intOf]; omega
    · have hkk : k = R.length := by omega
      obtain ⟨⟨s0, s1, s2, s3, s4⟩, sl, t0, t1, t2, t3, t4⟩ := vw5 HV.out.b3
      obtain ⟨⟨r0, r1, r2, r3, r4⟩, rl, u0, u1, u2, u3, u4⟩ := vw5 HV.out.b2
      have hki : ¬ (k : Int) < (R.length : Int) := by omega
      have HK := Lib.hid hkk
      clear hkk
      go_wp2_with fail
      have o1 := (((((Off.one wr ⟨W.heap.size, 0, none⟩ (.int .i64 G.ph)).set (p := ⟨W.heap.size, 1, none⟩) (.inl (show W.heap.size = W.heap.size from rfl)) (.int .i64 G.gn)).set (p := ⟨W.heap.size, 2, none⟩) (.inl (show W.heap.size = W.heap.size from rfl)) (.int .i64 G.nx)).set (p := ⟨W.heap.size, 3, none⟩) (.inl (show W.heap.size = W.heap.size from rfl)) (.int .i64 G.un)).set (p := ⟨W.heap.size, 4, none⟩) (.inl (show W.heap.size = W.heap.size from rfl)) (.slice vB Rv.length vc))
      have hbf := ((((HV.out.b2.set 0 (.int .i64 G.ph)).set 1 (.int .i64 G.gn)).set 2 (.int .i64 G.nx)).set 3 (.int .i64 G.un)).set 4 (.slice vB Rv.length vc)
      refine bodyPost_ret (view_result W.heap.size hbf _ rfl) rfl ?_
      have q : ∀ {t size n : Nat} {u : Value} {xs : List Value}, wr.ownsRow W.heap.size t size u n xs → t ≠ 57 → (((((wr.setCell ⟨W.heap.size, 0, none⟩ (.int .i64 G.ph)).setCell ⟨W.heap.size, 1, none⟩ (.int .i64 G.gn)).setCell ⟨W.heap.size, 2, none⟩ (.int .i64 G.nx)).setCell ⟨W.heap.size, 3, none⟩ (.int .i64 G.un)).setCell ⟨W.heap.size, 4, none⟩ (.slice vB Rv.length vc)).ownsRow W.heap.size t size u n xs := fun hq hne => own_off hq o1 (fun j hj e => own_ne hq HV.out.b2 (fun e => hne e.symm) j hj e)
      refine ⟨_, Rv, rfl, q (own_base2 HV.out.row (by omega)) (by decide), fun y hy => ⟨q (HV.out.all y hy).tr (by decide), q (HV.out.all y hy).pr (by decide)⟩, ?_, HV.out.bel.trans (o1.below HV.out.bel.size (fun j hj => by have e' : j = W.heap.size := hj; omega))⟩
      rw [HV.out.abs, HK.out, HI.out.len, List.take_length]
end Go.Proofs.YtlokhhjhckiloaaGreat
