/- member: Join, by a contract. No condition but that numbers are small. -/
import Derived.Test.YtlokhhjhckiloaaGreatMbTk
namespace Go.Proofs.YtlokhhjhckiloaaGreat
open Go.RowKit
set_option linter.unusedVariables false
/-- A member that has joined. -/
def joinAt (k : Nat) (T : List ByteArray) (now : Int) (G : GD) : GD := match G.L[k]? with | some x => { G with L := G.L.set k { x with T := T, j := true, u := now + G.ss } } | none => G
theorem own_base2 {w : World} {b b' t size n : Nat} {v : Value} {xs : List Value} (h : w.ownsRow b t size v n xs) (hb : b' ≤ b) : w.ownsRow b' t size v n xs := by
  refine ⟨h.1, ?_⟩
  rcases h.2 with h0 | ⟨g, cap, cur, rfl, hbg, hg, hr⟩
  · exact .inl h0
  · exact .inr ⟨g, cap, cur, rfl, Nat.le_trans hb hbg, hg, hr⟩
theorem GrIs.joined {w : World} {B p g c : Nat} {R : List MV} {G : GD} {k : Nat} {T : List ByteArray} {A : Option Addr} {c2 : Nat} (h : GrIs w B p (.slice (some ⟨g, 0, none⟩) R.length c) R G) (hk : k < R.length) (now : Int) (hT : w.ownsRow B 9 1 (.slice A T.length c2) T.length (strC T)) :
    ∃ R', R'.length = R.length ∧ GrIs (((w.setCell ⟨g, k * 5 + 1, none⟩ (.slice A T.length c2)).setCell ⟨g, k * 5 + 3, none⟩ (.bool true)).setCell ⟨g, k * 5 + 2, none⟩ (.int .i64 (now + G.ss))) B p (.slice (some ⟨g, 0, none⟩) R.length c) R' (joinAt k T now G) ∧
      Off (GrS p (.slice (some ⟨g, 0, none⟩) R.length c)) w (((w.setCell ⟨g, k * 5 + 1, none⟩ (.slice A T.length c2)).setCell ⟨g, k * 5 + 3, none⟩ (.bool true)).setCell ⟨g, k * 5 + 2, none⟩ (.int .i64 (now + G.ss))) := by
  obtain ⟨x, hx⟩ : ∃ x, R[k]? = some x := ⟨_, List.getElem?_eq_getElem hk⟩
  obtain ⟨h1, o1⟩ := h.field rfl hx (y := ⟨{ x.d with T := T }, .slice A T.length c2, x.pv⟩) 1 (.slice A T.length c2) (by decide) rfl (.inr hT) (.inl ⟨rfl, rfl⟩)
  have hx1 : (R.set k ⟨{ x.d with T := T }, .slice A T.length c2, x.pv⟩)[k]? = some ⟨{ x.d with T := T }, .slice A T.length c2, x.pv⟩ := by rw [List.getElem?_set_self hk]
  obtain ⟨h2, o2⟩ := h1.field (List.length_set ..) hx1 (y := ⟨{ x.d with T := T, j := true }, .slice A T.length c2, x.pv⟩) 3 (.bool true) (by decide) rfl (.inl ⟨rfl, rfl⟩) (.inl ⟨rfl, rfl⟩)
  rw [List.set_set] at h2
  have hx2 : (R.set k ⟨{ x.d with T := T, j := true }, .slice A T.length c2, x.pv⟩)[k]? = some ⟨{ x.d with T := T, j := true }, .slice A T.length c2, x.pv⟩ := by rw [List.getElem?_set_self hk]
  obtain ⟨h3, o3⟩ := h2.field (List.length_set ..) hx2 (y := ⟨{ x.d with T := T, j := true, u := now + G.ss }, .slice A T.length c2, x.pv⟩) 2 (.int .i64 (now + G.ss)) (by decide) rfl (.inl ⟨rfl, rfl⟩) (.inl ⟨rfl, rfl⟩)
  rw [List.set_set] at h3
  have hL : G.L[k]? = some x.d := by rw [← h.abs, List.getElem?_map, hx]; rfl
  have e : joinAt k T now G = { G with L := G.L.set k { x.d with T := T, j := true, u := now + G.ss } } := by unfold joinAt; rw [hL]
  rw [e]
  refine ⟨R.set k ⟨{ x.d with T := T, j := true, u := now + G.ss }, .slice A T.length c2, x.pv⟩, by rw [List.length_set], by simpa [List.set_set] using h3, (o1.trans o2 (fun _ _ e => e)).trans o3 (fun _ _ e => e)⟩
/-- Join: the member's number. -/
def joinM (m : Int) (G : GD) : Int := if m = -1 then G.nx else m
def joinE (m : Int) (T : List ByteArray) (now : Int) (G : GD) : Int := if (timeB now && (wantB T && decide (-1 ≤ m))) = true then (if m = -1 then (if 20 ≤ G.L.length then 5 else 0) else match posM m G.L with | none => 11 | some _ => 0) else 1
def join1D (m : Int) (G : GD) : GD := if m = -1 then addD G else G
def join2D (now : Int) (G : GD) : GD := if G.ph = 1 then G else beginD now G
def join3D (m : Int) (T : List ByteArray) (now : Int) (G : GD) : GD := match posM m G.L with | some k => wholeD now (joinAt k T now G) | none => G
def joinD (m : Int) (T : List ByteArray) (now : Int) (G : GD) : GD := if joinE m T now G = 0 then join3D (joinM m G) T now (join2D now (join1D m G)) else G
theorem join_nil (m now : Int) (T : List ByteArray) (A : Option Addr) (c : Nat) (W : World) : Calls Tryz.prog 40 #[.pointer none, .int .i64 m, .slice A T.length c, .int .i64 now] W (fun e w' => e = .returned (.tuple #[.int .i64 0, .int .i64 1]) ∧ w' = W) := by
  have ct := fun w => takes_nil now w
  go_enter Tryz.func40, Tryz.ntmps40
  go_wp2_with fail
  with_reducible refine (ct _).mono ?_
  rintro e w1 ⟨rfl, rfl⟩
  go_wp2_with fail
  go_ret2
  exact ⟨rfl, rfl⟩
theorem pos_some_of {m : Int} {L : List MD} (h : ∃ x ∈ L, x.n = m) : ∃ k, posM m L = some k := by
  cases hp : posM m L with
  | some k => exact ⟨k, rfl⟩
  | none =>
    obtain ⟨x, hx, e⟩ := h
    have := List.findIdx?_eq_none_iff.1 hp x hx
    simp [e] at this
theorem pos_begin (m now : Int) (G : GD) : posM m (beginD now G).L = posM m G.L := by
  unfold beginD
  rw [enterD_L]
  show posM m (G.L.map _) = _
  unfold posM
  rw [List.findIdx?_map]
  rfl
theorem pos_join2 (m now : Int) (G : GD) : posM m (join2D now G).L = posM m G.L := by
  unfold join2D
  split
  · rfl
  · exact pos_begin m now G
theorem pos_add (G : GD) : ∃ k, posM G.nx (addD G).L = some k := pos_some_of ⟨⟨G.nx, [], 0, false, []⟩, by simp [addD], rfl⟩
theorem GBd.joinAt {G : GD} (h : GBd G) (k : Nat) (T : List ByteArray) (now : Int) : GBd (joinAt k T now G) := by
  unfold Go.Proofs.YtlokhhjhckiloaaGreat.joinAt
  split
  · exact ⟨by show (G.L.set _ _).length ≤ 100000; rw [List.length_set]; exact h.len, h.ss, h.rb⟩
  · exact h
theorem joinAt_gn (k : Nat) (T : List ByteArray) (now : Int) (G : GD) : (joinAt k T now G).gn = G.gn := by
  unfold Go.Proofs.YtlokhhjhckiloaaGreat.joinAt
  split <;> rfl
/-- Under way. -/
structure JnS (W : World) (B p : Nat) (v0 : Value) (G : GD) (v : Value) (R : List MV) (w : World) : Prop where
  is : GrIs w B p v R G
  off : Off (GrS p v0) W w
  val : ∀ k, v.ownBlock = some k → v0.ownBlock = some k ∨ W.heap.size ≤ k
theorem StrIn.off {S : Nat → Prop} {w w' : World} {A : Option Addr} {T : List ByteArray} (h : StrIn w A T) (ho : Off S w w') (hs : 0 < T.length → ∀ a, A = some a → ¬ S a.block) : StrIn w' A T := fun hp => by
  obtain ⟨b, off, e, hlt, hc⟩ := h hp
  exact ⟨b, off, e, Nat.lt_of_lt_of_le hlt ho.size, fun j x hx => (ho.cell (p := ⟨b, off + j, none⟩) hlt (hs hp ⟨b, off, none⟩ e)).trans (hc j x hx)⟩
set_option maxHeartbeats 8000000 in
set_option maxRecDepth 100000 in
theorem join_c (B p : Nat) (v : Value) (R : List MV) (G : GD) (m now : Int) (T : List ByteArray) (A : Option Addr) (c : Nat) (W : World) (h : GrIs W B p v R G) (hG : GBd G) (hl : G.L.length ≤ 20) (hgn : 0 ≤ G.gn ∧ G.gn ≤ 999999) (hnx : 0 ≤ G.nx ∧ G.nx ≤ 999999) (hBW : B ≤ W.heap.size)
    (hT : StrIn W A T) (hTl : T.length ≤ 140737488351232) (hTz : ∀ s ∈ T, s.size ≤ 281474976710656) (hTS : 0 < T.length → ∀ a, A = some a → ¬ GrS p v a.block) :
    Calls Tryz.prog 40 #[.pointer (some ⟨p, 0, none⟩), .int .i64 m, .slice A T.length c, .int .i64 now] W (Wr B p v W (joinD m T now G) (.tuple #[.int .i64 (if joinE m T now G = 0 then joinM m G else 0), .int .i64 (joinE m T now G)])) := by
  have ct := fun w => takes_c p now w
  have cw := want_c T A c W hT hTl
  have HI := Lib.hid h
  have HT := Lib.hid hT
  have HTS := Lib.hid hTS
  have h1m : (-1 : Int) ≤ m ↔ ¬ m < -1 := by omega
  cases ht : timeB now with
  | false =>
    rw [ht] at ct
    have hE : joinE m T now G = 1 := by unfold joinE; rw [ht]; rfl
    have hD : joinD m T now G = G := by unfold joinD; rw [hE]; rfl
    rw [hE, hD, if_neg (by decide)]
    clear h hG ht hT hTS cw hE hD h1m hTz
    go_enter Tryz.func40, Tryz.ntmps40
    go_wp2_with fail
    with_reducible refine (ct _).mono ?_
    rintro e w1 ⟨rfl, hw9⟩
    have hw8 := hw9.symm
    subst hw8
    clear hw9
    go_wp2_with fail
    go_ret2
    exact Wr.mk HI.out (Off.refl _ _) (fun k hk => .inl hk)
  | true =>
    rw [ht] at ct
    cases hw : wantB T with
    | false =>
      rw [hw] at cw
      have hE : joinE m T now G = 1 := by unfold joinE; rw [ht, hw]; rfl
      have hD : joinD m T now G = G := by unfold joinD; rw [hE]; rfl
      rw [hE, hD, if_neg (by decide)]
      clear h hG ht hT hTS hw hE hD h1m hTz
      go_enter Tryz.func40, Tryz.ntmps40
      go_wp2_with fail
      with_reducible refine (ct _).mono ?_
      rintro e w1 ⟨rfl, hw9⟩
      have hw8 := hw9.symm
      subst hw8
      clear hw9
      go_wp2_with fail
      with_reducible refine cw.mono ?_
      rintro e w1 ⟨rfl, hb1⟩
      go_wp2_with fail
      go_ret2
      exact Wr.mk (HI.out.later hb1) (Off.of_below _ hb1) (fun k hk => .inl hk)
    | true =>
      rw [hw] at cw
      have hn := time_bd ht
      by_cases hm1 : m < -1
      · have hE : joinE m T now G = 1 := by unfold joinE; rw [ht, hw, decide_eq_false (by omega)]; rfl
        have hD : joinD m T now G = G := by unfold joinD; rw [hE]; rfl
        rw [hE, hD, if_neg (by decide)]
        clear h hG ht hT hTS hw hE hD h1m hTz
        go_enter Tryz.func40, Tryz.ntmps40
        go_wp2_with fail
        with_reducible refine (ct _).mono ?_
        rintro e w1 ⟨rfl, hw9⟩
        have hw8 := hw9.symm
        subst hw8
        clear hw9
        go_wp2_with fail
        with_reducible refine cw.mono ?_
        rintro e w1 ⟨rfl, hb1⟩
        go_wp2_with fail
        go_ret2
        exact Wr.mk (HI.out.later hb1) (Off.of_below _ hb1) (fun k hk => .inl hk)
      have hE0 : joinE m T now G = if m = -1 then (if 20 ≤ G.L.length then 5 else 0) else match posM m G.L with | none => 11 | some _ => 0 := by unfold joinE; rw [ht, hw, decide_eq_true (by omega)]; rfl
      have cf := fun w (hb : Below W.heap.size W w) m' => find_c B p v R G m' w (h.later hb) hG.len
      have hwant20 : T.length ≤ 100000 := by
        unfold wantB at hw
        simp only [Bool.and_eq_true, decide_eq_true_eq] at hw
        omega
      by_cases hmm : m = -1
      · subst hmm
        rw [if_pos rfl] at hE0
        by_cases hfull : 20 ≤ G.L.length
        · rw [if_pos hfull] at hE0
          have hD : joinD (-1) T now G = G := by unfold joinD; rw [hE0]; rfl
          rw [hE0, hD, if_neg (by decide)]
          have hlen : (20 : Int) ≤ (R.length : Int) := by rw [h.len]; omega
          obtain ⟨A9, c9, hv⟩ := own_slice h.row
          subst hv
          clear h hG ht hT hTS hw hE0 hD h1m hTz cf hfull hl
          go_enter Tryz.func40, Tryz.ntmps40
          go_wp2_with fail
          with_reducible refine (ct _).mono ?_
          rintro e w1 ⟨rfl, hw9⟩
          have hw8 := hw9.symm
          subst hw8
          clear hw9
          go_wp2_with fail
          with_reducible refine cw.mono ?_
          rintro e w1 ⟨rfl, hb1⟩
          have h1 := HI.out.later hb1
          obtain ⟨b0, b1, b2, b3, b4, b5, b6, bl, _⟩ := gr7 h1.box
          have HB1 := Lib.hid hb1
          clear h1 hb1
          go_wp2_with fail
          go_ret2
          exact Wr.mk (HI.out.later HB1.out) (Off.of_below _ HB1.out) (fun k hk => .inl hk)
        · rw [if_neg hfull] at hE0
          obtain ⟨k0, hk0⟩ := pos_add G
          have hR20 : ¬ (20 : Int) ≤ (R.length : Int) := by rw [h.len]; omega
          have HE := Lib.hid hE0
          have HM : Hid (joinM (-1) G = G.nx) := Lib.hid rfl
          have hG1e : join1D (-1) G = addD G := rfl
          obtain ⟨G1, hG1f⟩ : ∃ G1, addD G = G1 := ⟨_, rfl⟩
          rw [hG1f] at hk0 hG1e
          have H1D := Lib.hid hG1e
          have hG1 : GBd G1 := by rw [← hG1f]; exact ⟨by show (G.L ++ _).length ≤ 100000; simp; omega, hG.ss, hG.rb⟩
          have hgn1 : 0 ≤ G1.gn ∧ G1.gn ≤ 1000000 := by rw [← hG1f]; exact ⟨hgn.1, by have := hgn.2; show G.gn ≤ 1000000; omega⟩
          have hk1 := hk0
          clear hk0 hG1e
          have hG1e := hG1f
          clear hG1f
          rw [hE0, if_pos rfl, HM.out]
          obtain ⟨A9, c9, hv9⟩ := own_slice h.row
          subst hv9
          clear h ht hT hTS hw hE0 h1m cf hfull hl
          go_enter Tryz.func40, Tryz.ntmps40
          go_wp2_with fail
          with_reducible refine (ct _).mono ?_
          rintro e w1 ⟨rfl, hw9⟩
          have hw8 := hw9.symm
          subst hw8
          clear hw9
          go_wp2_with fail
          with_reducible refine cw.mono ?_
          rintro e w1 ⟨rfl, hb1⟩
          have ca := add_c B p (.slice A9 R.length c9) R G w1 (HI.out.later hb1) hG ⟨hnx.1, by have := hnx.2; omega⟩ (Nat.le_trans hBW hb1.size)
          rw [hG1e] at ca
          have h1x := HI.out.later hb1
          obtain ⟨b0, b1, b2, b3, b4, b5, b6, bl, _⟩ := gr7 h1x.box
          have hBx := Lib.hid hb1
          clear hb1 h1x
          go_wp2_with fail
          with_reducible refine ca.mono ?_
          rintro e w1x ⟨rfl, v1, R1, h1, o1, hv1⟩
          have J1 : Hid (JnS W B p (.slice A9 R.length c9) G1 v1 R1 w1x) := Lib.hid ⟨h1, (Off.of_below (GrS p (.slice A9 R.length c9)) hBx.out).trans o1 (fun _ _ e => e), fun k hk => by
            rcases hv1 k hk with e | e
            · exact .inl e
            · exact .inr (Nat.le_trans hBx.out.size e)⟩
          clear h1 o1 hv1 ca b0 b1 b2 b3 b4 b5 b6 bl
          have hG1b := hG1
          obtain ⟨G2, hG2e⟩ : ∃ G2, join2D now G1 = G2 := ⟨_, rfl⟩
          have hk2 : posM G.nx G2.L = some k0 := by rw [← hG2e, pos_join2]; exact hk1
          have HD : Hid (joinD (-1) T now G = wholeD now (joinAt k0 T now G2)) := Lib.hid (by unfold joinD; rw [HE.out, if_pos rfl, HM.out, H1D.out, hG2e]; unfold join3D; rw [hk2])
          have hG2 : GBd G2 := by
            rw [← hG2e]
            unfold join2D
            split
            · exact hG1
            · exact hG1.begin now
          have hgn2 : 0 ≤ G2.gn ∧ G2.gn ≤ 1000000 := by
            have e : G2.gn = G1.gn := by
              rw [← hG2e]
              unfold join2D
              split
              · rfl
              · exact beginD_gn _ _
            rw [e]; exact hgn1
          clear hk1 hgn1 HE HM H1D
          by_cases hph : G1.ph = 1
          · have hph' : (G1.ph == 1) = true := by rw [hph]; rfl
            have e2 : join2D now G1 = G1 := by unfold join2D; rw [if_pos hph]
            rw [e2] at hG2e
            clear e2 hph
            have J2 : Hid (JnS W B p (.slice A9 R.length c9) G2 v1 R1 w1x) := Lib.hid (by rw [← hG2e]; exact J1.out)
            obtain ⟨b0, b1, b2, b3, b4, b5, b6, bl, _⟩ := gr7 J1.out.is.box
            clear J1 hG2e
            obtain ⟨g2, c2, ev2, ef2, hkR⟩ := findV_some J2.out.is hk2
            subst ev2
            have cfk := find_c B p _ R1 G2 G.nx _ J2.out.is hG2.len
            rw [ef2] at cfk
            obtain ⟨b0, b1, b2, b3, b4, b5, b6, bl, _⟩ := gr7 J2.out.is.box
            clear ef2 hk2
            go_wp2_with fail
            with_reducible refine cfk.mono ?_
            rintro e w3 ⟨rfl, hb3⟩
            have I3 := Lib.hid (J2.out.is.later hb3)
            have T3 := Lib.hid ((HT.out.off J2.out.off HTS.out).below hb3)
            have O3 := Lib.hid (J2.out.off.later hb3)
            have cct := ctexts_c T A c w3 T3.out hwant20 hTz
            obtain ⟨y0, y1, y2, y3, y4, y5, y6, yl, _⟩ := gr7 I3.out.box
            clear hb3 cfk b0 b1 b2 b3 b4 b5 b6 bl
            go_wp2_with fail
            with_reducible refine cct.mono ?_
            rintro e w4 ⟨A4, c4, rfl, hown4, hb4⟩
            have I4 := I3.out.later hb4
            obtain ⟨R5, hR5, h5, o5⟩ := I4.joined hkR now (own_base2 hown4 (Nat.le_trans hBW O3.out.size))
            have O5 := Lib.hid ((O3.out.later hb4).two o5 J2.out.val)
            obtain ⟨x4, hx4⟩ : ∃ x, R1[k0]? = some x := ⟨_, List.getElem?_eq_getElem hkR⟩
            obtain ⟨g9, c9, e9, hgl, _, hgp, q0, q1, q2, q3, q4, hf⟩ := I4.at_ hx4
            injection e9 with e9 _ _
            injection e9 with e9
            injection e9 with e9
            subst e9
            have f1 := hf (k0 * 5 + 1)
            have f2 := hf (k0 * 5 + 2)
            have f3 := hf (k0 * 5 + 3)
            obtain ⟨z0, z1, z2, z3, z4, z5, z6, zl, _⟩ := gr7 I4.box
            have hss := hG2.ss
            have hnow := hn
            have ht1 : (joinAt k0 T now G2).gn = G2.gn := joinAt_gn _ _ _ _
            have cwh := whole_c B p _ R5 (joinAt k0 T now G2) now _ h5 (hG2.joinAt k0 T now) hn (by rw [ht1]; exact hgn2)
            clear hown4 hb4 I4 hR5 h5 o5 hx4 hf y0 y1 y2 y3 y4 y5 y6 yl cct ht1 hG2 hn q0 q4
            generalize hi5 : k0 * 5 = i5 at *
            go_wp2_with fail
            with_reducible refine cwh.mono ?_
            rintro e w6 ⟨rfl, v6, R6, h6, o6, hv6⟩
            go_wp2_with fail
            go_ret2
            exact ⟨rfl, v6, R6, by rw [HD.out]; exact h6, O5.out.two o6 J2.out.val, own_two2 O5.out.size J2.out.val hv6⟩
          · have hph' : (G1.ph == 1) = false := beq_eq_false_iff_ne.2 hph
            have e2 : join2D now G1 = beginD now G1 := by unfold join2D; rw [if_neg hph]
            rw [e2] at hG2e
            clear e2 hph
            obtain ⟨b0, b1, b2, b3, b4, b5, b6, bl, _⟩ := gr7 J1.out.is.box
            have cb := begin_c B p _ _ _ now _ J1.out.is hG1 hn
            rw [hG2e] at cb
            clear hG2e
            go_wp2_with fail
            with_reducible refine cb.mono ?_
            rintro e w2 ⟨rfl, v2, R2, h2, o2, hv2⟩
            have J2 : Hid (JnS W B p (.slice A9 R.length c9) G2 v2 R2 w2) := Lib.hid ⟨h2, J1.out.off.two o2 J1.out.val, own_two2 J1.out.off.size J1.out.val hv2⟩
            clear h2 o2 hv2 cb b0 b1 b2 b3 b4 b5 b6 bl J1
            obtain ⟨g2, c2, ev2, ef2, hkR⟩ := findV_some J2.out.is hk2
            subst ev2
            have cfk := find_c B p _ R2 G2 G.nx _ J2.out.is hG2.len
            rw [ef2] at cfk
            obtain ⟨b0, b1, b2, b3, b4, b5, b6, bl, _⟩ := gr7 J2.out.is.box
            clear ef2 hk2
            go_wp2_with fail
            with_reducible refine cfk.mono ?_
            rintro e w3 ⟨rfl, hb3⟩
            have I3 := Lib.hid (J2.out.is.later hb3)
            have T3 := Lib.hid ((HT.out.off J2.out.off HTS.out).below hb3)
            have O3 := Lib.hid (J2.out.off.later hb3)
            have cct := ctexts_c T A c w3 T3.out hwant20 hTz
            obtain ⟨y0, y1, y2, y3, y4, y5, y6, yl, _⟩ := gr7 I3.out.box
            clear hb3 cfk b0 b1 b2 b3 b4 b5 b6 bl
            go_wp2_with fail
            with_reducible refine cct.mono ?_
            rintro e w4 ⟨A4, c4, rfl, hown4, hb4⟩
            have I4 := I3.out.later hb4
            obtain ⟨R5, hR5, h5, o5⟩ := I4.joined hkR now (own_base2 hown4 (Nat.le_trans hBW O3.out.size))
            have O5 := Lib.hid ((O3.out.later hb4).two o5 J2.out.val)
            obtain ⟨x4, hx4⟩ : ∃ x, R2[k0]? = some x := ⟨_, List.getElem?_eq_getElem hkR⟩
            obtain ⟨g9, c9, e9, hgl, _, hgp, q0, q1, q2, q3, q4, hf⟩ := I4.at_ hx4
            injection e9 with e9 _ _
            injection e9 with e9
            injection e9 with e9
            subst e9
            have f1 := hf (k0 * 5 + 1)
            have f2 := hf (k0 * 5 + 2)
            have f3 := hf (k0 * 5 + 3)
            obtain ⟨z0, z1, z2, z3, z4, z5, z6, zl, _⟩ := gr7 I4.box
            have hss := hG2.ss
            have hnow := hn
            have ht1 : (joinAt k0 T now G2).gn = G2.gn := joinAt_gn _ _ _ _
            have cwh := whole_c B p _ R5 (joinAt k0 T now G2) now _ h5 (hG2.joinAt k0 T now) hn (by rw [ht1]; exact hgn2)
            clear hown4 hb4 I4 hR5 h5 o5 hx4 hf y0 y1 y2 y3 y4 y5 y6 yl cct ht1 hG2 hn q0 q4
            generalize hi5 : k0 * 5 = i5 at *
            go_wp2_with fail
            with_reducible refine cwh.mono ?_
            rintro e w6 ⟨rfl, v6, R6, h6, o6, hv6⟩
            go_wp2_with fail
            go_ret2
            exact ⟨rfl, v6, R6, by rw [HD.out]; exact h6, O5.out.two o6 J2.out.val, own_two2 O5.out.size J2.out.val hv6⟩
      · rw [if_neg hmm] at hE0
        cases hpo : posM m G.L with
        | none =>
          rw [hpo] at hE0
          have hD : joinD m T now G = G := by unfold joinD; rw [hE0]; rfl
          rw [hE0, hD, if_neg (by decide)]
          have hm0 : 0 ≤ m := by omega
          clear h hG ht hT hTS hw hE0 hD h1m hTz hmm hm1 hl
          go_enter Tryz.func40, Tryz.ntmps40
          go_wp2_with fail
          with_reducible refine (ct _).mono ?_
          rintro e w1 ⟨rfl, hw9⟩
          have hw8 := hw9.symm
          subst hw8
          clear hw9
          go_wp2_with fail
          with_reducible refine cw.mono ?_
          rintro e w1 ⟨rfl, hb1⟩
          have HB1 := Lib.hid hb1
          have cf1 := cf _ hb1 m
          rw [findV_none hpo] at cf1
          clear cf hpo hb1
          go_wp2_with fail
          with_reducible refine cf1.mono ?_
          rintro e w2 ⟨rfl, hb2⟩
          go_wp2_with fail
          go_ret2
          exact Wr.mk (HI.out.later (HB1.out.trans (hb2.mono HB1.out.size))) (Off.of_below _ (HB1.out.trans (hb2.mono HB1.out.size))) (fun k hk => .inl hk)
        | some k0 =>
          rw [hpo] at hE0
          dsimp only at hE0
          have HE := Lib.hid hE0
          have HM : Hid (joinM m G = m) := Lib.hid (by unfold joinM; rw [if_neg hmm])
          have hGe : G = G := rfl
          have H1D : Hid (join1D m G = G) := Lib.hid (by unfold join1D; rw [if_neg hmm])
          obtain ⟨gx, cx, evx, efx, hkx⟩ := findV_some h hpo
          have hk1 := hpo
          have hG := hG
          have hgn1 : 0 ≤ G.gn ∧ G.gn ≤ 1000000 := ⟨hgn.1, by have := hgn.2; omega⟩
          rw [hE0, if_pos rfl, HM.out]
          have hm0 : 0 ≤ m := by omega
          have hmm' : (m == -1) = false := beq_eq_false_iff_ne.2 hmm
          clear h ht hT hTS hw hE0 h1m hmm hm1 hl hpo evx
          go_enter Tryz.func40, Tryz.ntmps40
          go_wp2_with fail
          with_reducible refine (ct _).mono ?_
          rintro e w1 ⟨rfl, hw9⟩
          have hw8 := hw9.symm
          subst hw8
          clear hw9
          go_wp2_with fail
          with_reducible refine cw.mono ?_
          rintro e w1 ⟨rfl, hb1⟩
          have cf1 := cf _ hb1 m
          rw [efx] at cf1
          have HB1 := Lib.hid hb1
          clear hb1 cf
          go_wp2_with fail
          with_reducible refine cf1.mono ?_
          rintro e w1x ⟨rfl, hb1x⟩
          have hBt := HB1.out.trans (hb1x.mono HB1.out.size)
          have J1 : Hid (JnS W B p v G v R w1x) := Lib.hid ⟨HI.out.later hBt, Off.of_below _ hBt, fun k hk => .inl hk⟩
          clear hb1x hBt cf1
          have hGb := hG
          obtain ⟨G2, hG2e⟩ : ∃ G2, join2D now G = G2 := ⟨_, rfl⟩
          have hk2 : posM m G2.L = some k0 := by rw [← hG2e, pos_join2]; exact hk1
          have HD : Hid (joinD m T now G = wholeD now (joinAt k0 T now G2)) := Lib.hid (by unfold joinD; rw [HE.out, if_pos rfl, HM.out, H1D.out, hG2e]; unfold join3D; rw [hk2])
          have hG2 : GBd G2 := by
            rw [← hG2e]
            unfold join2D
            split
            · exact hG
            · exact hG.begin now
          have hgn2 : 0 ≤ G2.gn ∧ G2.gn ≤ 1000000 := by
            have e : G2.gn = G.gn := by
              rw [← hG2e]
              unfold join2D
              split
              · rfl
              · exact beginD_gn _ _
            rw [e]; exact hgn1
          clear hk1 hgn1 HE HM H1D
          by_cases hph : G.ph = 1
          · have hph' : (G.ph == 1) = true := by rw [hph]; rfl
            have e2 : join2D now G = G := by unfold join2D; rw [if_pos hph]
            rw [e2] at hG2e
            clear e2 hph
            have J2 : Hid (JnS W B p v G2 v R w1x) := Lib.hid (by rw [← hG2e]; exact J1.out)
            obtain ⟨b0, b1, b2, b3, b4, b5, b6, bl, _⟩ := gr7 J1.out.is.box
            clear J1 hG2e
            obtain ⟨g2, c2, ev2, ef2, hkR⟩ := findV_some J2.out.is hk2
            subst ev2
            have cfk := find_c B p _ R G2 m _ J2.out.is hG2.len
            rw [ef2] at cfk
            obtain ⟨b0, b1, b2, b3, b4, b5, b6, bl, _⟩ := gr7 J2.out.is.box
            clear ef2 hk2
            go_wp2_with fail
            with_reducible refine cfk.mono ?_
            rintro e w3 ⟨rfl, hb3⟩
            have I3 := Lib.hid (J2.out.is.later hb3)
            have T3 := Lib.hid ((HT.out.off J2.out.off HTS.out).below hb3)
            have O3 := Lib.hid (J2.out.off.later hb3)
            have cct := ctexts_c T A c w3 T3.out hwant20 hTz
            obtain ⟨y0, y1, y2, y3, y4, y5, y6, yl, _⟩ := gr7 I3.out.box
            clear hb3 cfk b0 b1 b2 b3 b4 b5 b6 bl
            go_wp2_with fail
            with_reducible refine cct.mono ?_
            rintro e w4 ⟨A4, c4, rfl, hown4, hb4⟩
            have I4 := I3.out.later hb4
            obtain ⟨R5, hR5, h5, o5⟩ := I4.joined hkR now (own_base2 hown4 (Nat.le_trans hBW O3.out.size))
            have O5 := Lib.hid ((O3.out.later hb4).two o5 J2.out.val)
            obtain ⟨x4, hx4⟩ : ∃ x, R[k0]? = some x := ⟨_, List.getElem?_eq_getElem hkR⟩
            obtain ⟨g9, c9, e9, hgl, _, hgp, q0, q1, q2, q3, q4, hf⟩ := I4.at_ hx4
            injection e9 with e9 _ _
            injection e9 with e9
            injection e9 with e9
            subst e9
            have f1 := hf (k0 * 5 + 1)
            have f2 := hf (k0 * 5 + 2)
            have f3 := hf (k0 * 5 + 3)
            obtain ⟨z0, z1, z2, z3, z4, z5, z6, zl, _⟩ := gr7 I4.box
            have hss := hG2.ss
            have hnow := hn
            have ht1 : (joinAt k0 T now G2).gn = G2.gn := joinAt_gn _ _ _ _
            have cwh := whole_c B p _ R5 (joinAt k0 T now G2) now _ h5 (hG2.joinAt k0 T now) hn (by rw [ht1]; exact hgn2)
            clear hown4 hb4 I4 hR5 h5 o5 hx4 hf y0 y1 y2 y3 y4 y5 y6 yl cct ht1 hG2 hn q0 q4
            generalize hi5 : k0 * 5 = i5 at *
            go_wp2_with fail
            with_reducible refine cwh.mono ?_
            rintro e w6 ⟨rfl, v6, R6, h6, o6, hv6⟩
            go_wp2_with fail
            go_ret2
            exact ⟨rfl, v6, R6, by rw [HD.out]; exact h6, O5.out.two o6 J2.out.val, own_two2 O5.out.size J2.out.val hv6⟩
          · have hph' : (G.ph == 1) = false := beq_eq_false_iff_ne.2 hph
            have e2 : join2D now G = beginD now G := by unfold join2D; rw [if_neg hph]
            rw [e2] at hG2e
            clear e2 hph
            obtain ⟨b0, b1, b2, b3, b4, b5, b6, bl, _⟩ := gr7 J1.out.is.box
            have cb := begin_c B p _ _ _ now _ J1.out.is hG hn
            rw [hG2e] at cb
            clear hG2e
            go_wp2_with fail
            with_reducible refine cb.mono ?_
            rintro e w2 ⟨rfl, v2, R2, h2, o2, hv2⟩
            have J2 : Hid (JnS W B p v G2 v2 R2 w2) := Lib.hid ⟨h2, J1.out.off.two o2 J1.out.val, own_two2 J1.out.off.size J1.out.val hv2⟩
            clear h2 o2 hv2 cb b0 b1 b2 b3 b4 b5 b6 bl J1
            obtain ⟨g2, c2, ev2, ef2, hkR⟩ := findV_some J2.out.is hk2
            subst ev2
            have cfk := find_c B p _ R2 G2 m _ J2.out.is hG2.len
            rw [ef2] at cfk
            obtain ⟨b0, b1, b2, b3, b4, b5, b6, bl, _⟩ := gr7 J2.out.is.box
            clear ef2 hk2
            go_wp2_with fail
            with_reducible refine cfk.mono ?_
            rintro e w3 ⟨rfl, hb3⟩
            have I3 := Lib.hid (J2.out.is.later hb3)
            have T3 := Lib.hid ((HT.out.off J2.out.off HTS.out).below hb3)
            have O3 := Lib.hid (J2.out.off.later hb3)
            have cct := ctexts_c T A c w3 T3.out hwant20 hTz
            obtain ⟨y0, y1, y2, y3, y4, y5, y6, yl, _⟩ := gr7 I3.out.box
            clear hb3 cfk b0 b1 b2 b3 b4 b5 b6 bl
            go_wp2_with fail
            with_reducible refine cct.mono ?_
            rintro e w4 ⟨A4, c4, rfl, hown4, hb4⟩
            have I4 := I3.out.later hb4
            obtain ⟨R5, hR5, h5, o5⟩ := I4.joined hkR now (own_base2 hown4 (Nat.le_trans hBW O3.out.size))
            have O5 := Lib.hid ((O3.out.later hb4).two o5 J2.out.val)
            obtain ⟨x4, hx4⟩ : ∃ x, R2[k0]? = some x := ⟨_, List.getElem?_eq_getElem hkR⟩
            obtain ⟨g9, c9, e9, hgl, _, hgp, q0, q1, q2, q3, q4, hf⟩ := I4.at_ hx4
            injection e9 with e9 _ _
            injection e9 with e9
            injection e9 with e9
            subst e9
            have f1 := hf (k0 * 5 + 1)
            have f2 := hf (k0 * 5 + 2)
            have f3 := hf (k0 * 5 + 3)
            obtain ⟨z0, z1, z2, z3, z4, z5, z6, zl, _⟩ := gr7 I4.box
            have hss := hG2.ss
            have hnow := hn
            have ht1 : (joinAt k0 T now G2).gn = G2.gn := joinAt_gn _ _ _ _
            have cwh := whole_c B p _ R5 (joinAt k0 T now G2) now _ h5 (hG2.joinAt k0 T now) hn (by rw [ht1]; exact hgn2)
            clear hown4 hb4 I4 hR5 h5 o5 hx4 hf y0 y1 y2 y3 y4 y5 y6 yl cct ht1 hG2 hn q0 q4
            generalize hi5 : k0 * 5 = i5 at *
            go_wp2_with fail
            with_reducible refine cwh.mono ?_
            rintro e w6 ⟨rfl, v6, R6, h6, o6, hv6⟩
            go_wp2_with fail
            go_ret2
            exact ⟨rfl, v6, R6, by rw [HD.out]; exact h6, O5.out.two o6 J2.out.val, own_two2 O5.out.size J2.out.val hv6⟩
end Go.Proofs.YtlokhhjhckiloaaGreat
