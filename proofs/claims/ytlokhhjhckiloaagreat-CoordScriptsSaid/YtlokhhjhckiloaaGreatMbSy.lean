/- member: Sync, by a contract. No condition but that numbers are small. -/
import Derived.Test.YtlokhhjhckiloaaGreatMbDa
namespace Go.Proofs.YtlokhhjhckiloaaGreat
open Go.RowKit
set_option linter.unusedVariables false
/-- Sync, when the member is heard: the group, the error. -/
def sync2D (m : Int) (T : List TX) (round : Bool) (G : GD) : GD := if G.ph = 2 then (if m = leadM G then dealD T round G else G) else G
def sync2E (m : Int) (T : List TX) (G : GD) : Int := if G.ph = 2 then (if m = leadM G then dealE G.L T else 13) else 0
def syncD (m gen : Int) (T : List TX) (round : Bool) (now : Int) (G : GD) : GD := if timeB now = true ∧ knowE m gen G = 0 then (match posM m G.L with | some k => sync2D m T round (hearD k now G) | none => G) else G
def syncE (m gen : Int) (T : List TX) (now : Int) (G : GD) : Int := if timeB now = true then (if knowE m gen G = 0 then (match posM m G.L with | some k => sync2E m T (hearD k now G) | none => 0) else knowE m gen G) else 1
def partAt (k : Nat) (G : GD) : List TX := match G.L[k]? with | some x => x.P | none => []
def syncP (m gen : Int) (T : List TX) (round : Bool) (now : Int) (G : GD) : List TX := if syncE m gen T now G = 0 then (match posM m G.L with | some k => partAt k (syncD m gen T round now G) | none => []) else []
/-- What Sync gives. -/
def GotSy (B p : Nat) (v : Value) (W : World) (G' : GD) (P : List TX) (err : Int) (e : Ending) (w' : World) : Prop :=
  ∃ A c, e = .returned (.tuple #[.slice A P.length c, .int .i64 err]) ∧ w'.ownsRow W.heap.size 34 2 (.slice A P.length c) P.length (prtC P) ∧ ∃ v' R', GrIs w' B p v' R' G' ∧ Off (GrS p v) W w' ∧ ∀ k, v'.ownBlock = some k → v.ownBlock = some k ∨ W.heap.size ≤ k
theorem GotSy.no {B p : Nat} {v v' : Value} {W w' : World} {R' : List MV} {G' : GD} {err : Int} (h : GrIs w' B p v' R' G') (ho : Off (GrS p v) W w') (hv : ∀ k, v'.ownBlock = some k → v.ownBlock = some k ∨ W.heap.size ≤ k) : GotSy B p v W G' [] err (.returned (.tuple #[.slice none 0 0, .int .i64 err])) w' :=
  ⟨none, 0, rfl, World.ownsRow_nil _ _ _ _, v', R', h, ho, hv⟩
theorem sync_nil (m gen now : Int) (A : Option Addr) (n c : Nat) (round : Bool) (W : World) : Calls Tryz.prog 44 #[.pointer none, .int .i64 m, .int .i64 gen, .slice A n c, .bool round, .int .i64 now] W (fun e w' => e = .returned (.tuple #[.slice none 0 0, .int .i64 1]) ∧ w' = W) := by
  have ct := fun w => takes_nil now w
  go_enter Tryz.func44, Tryz.ntmps44
  go_wp2_with fail
  with_reducible refine (ct _).mono ?_
  rintro e w1 ⟨rfl, rfl⟩
  go_wp2_with fail
  go_ret2
  exact ⟨rfl, rfl⟩
theorem know_name {m gen : Int} {G : GD} (h : knowE m gen G = 0) : nameE m gen G = 0 := by
  unfold knowE at h
  split at h
  · assumption
  · rename_i h1; exact absurd h h1
theorem hearD_ph (k : Nat) (now : Int) (G : GD) : (hearD k now G).ph = G.ph := by unfold hearD; split <;> rfl
theorem hearD_len (k : Nat) (now : Int) (G : GD) : (hearD k now G).L.length = G.L.length := by
  unfold hearD
  split
  · show (G.L.set _ _).length = _
    rw [List.length_set]
  · rfl
theorem hearD_T {k : Nat} {now : Int} {G : GD} {C : List ByteArray → Prop} (h : ∀ x ∈ G.L, C x.T) : ∀ x ∈ (hearD k now G).L, C x.T := by
  unfold hearD
  cases hx : G.L[k]? with
  | none => exact h
  | some x =>
    intro y hy
    rcases List.mem_or_eq_of_mem_set hy with hy | rfl
    · exact h y hy
    · exact h x (List.mem_of_getElem? hx)
set_option maxHeartbeats 8000000 in
set_option maxRecDepth 100000 in
theorem sync_c (B p : Nat) (v : Value) (R : List MV) (G : GD) (m gen now : Int) (T : List TX) (A2 : Option Addr) (c2 : Nat) (round : Bool) (W : World) (h : GrIs W B p v R G) (hG : GBd G) (hl : G.L.length ≤ 20) (hBW : B ≤ W.heap.size) (hTL : ∀ x ∈ G.L, x.T.length ≤ 100000)
    (hT : TpIn W A2 T) (hTl : T.length ≤ 140737488351232) (hTz : ∀ t ∈ T, t.1.size ≤ 281474976710656) (hTS : 0 < T.length → ∀ a, A2 = some a → ¬ GrS p v a.block)
    (hP : ∀ x ∈ (syncD m gen T round now G).L, x.P.length ≤ 100000 ∧ ∀ t ∈ x.P, t.1.size ≤ 281474976710656) :
    Calls Tryz.prog 44 #[.pointer (some ⟨p, 0, none⟩), .int .i64 m, .int .i64 gen, .slice A2 T.length c2, .bool round, .int .i64 now] W (GotSy B p v W (syncD m gen T round now G) (syncP m gen T round now G) (syncE m gen T now G)) := by
  have ct := fun w => takes_c p now w
  have ck := knows_c B p v R G m gen W h hG.len
  have HI := Lib.hid h
  have HT := Lib.hid hT
  have HTS := Lib.hid hTS
  cases ht : timeB now with
  | false =>
    rw [ht] at ct
    have hE : syncE m gen T now G = 1 := by unfold syncE; rw [ht]; rfl
    have hD : syncD m gen T round now G = G := by unfold syncD; rw [ht]; rfl
    have hPp : syncP m gen T round now G = [] := by unfold syncP; rw [hE]; rfl
    rw [hE, hD, hPp]
    clear h hG ht hE hD hP hTL hTz hT hTS hPp ck
    go_enter Tryz.func44, Tryz.ntmps44
    go_wp2_with fail
    with_reducible refine (ct _).mono ?_
    rintro e w1 ⟨rfl, hw9⟩
    have hw8 := hw9.symm
    subst hw8
    clear hw9
    go_wp2_with fail
    go_ret2
    exact GotSy.no HI.out (Off.refl _ _) (fun k hk => .inl hk)
  | true =>
    rw [ht] at ct
    have hn := time_bd ht
    by_cases hK : knowE m gen G = 0
    · rw [hK] at ck
      obtain ⟨k, hk⟩ := name_pos (know_name hK)
      obtain ⟨g, c, ev, ef, hkR⟩ := findV_some h hk
      have cf := fun w (hb : Below W.heap.size W w) => find_c B p v R G m w (h.later hb) hG.len
      rw [ef] at cf
      subst ev
      have hE : syncE m gen T now G = sync2E m T (hearD k now G) := by unfold syncE; rw [ht, hK, hk]; rfl
      have hD : syncD m gen T round now G = sync2D m T round (hearD k now G) := by unfold syncD; rw [if_pos ⟨ht, hK⟩, hk]
      have hPp : syncP m gen T round now G = if sync2E m T (hearD k now G) = 0 then partAt k (sync2D m T round (hearD k now G)) else [] := by unfold syncP; rw [hE, hD, hk]
      rw [hD] at hP
      rw [hE, hD, hPp]
      obtain ⟨G1, hG1⟩ : ∃ G1, hearD k now G = G1 := ⟨_, rfl⟩
      have hl1 : G1.L.length ≤ 20 := by rw [← hG1, hearD_len]; exact hl
      have hTL1 : ∀ x ∈ G1.L, x.T.length ≤ 100000 := by rw [← hG1]; exact hearD_T (C := fun T => T.length ≤ 100000) hTL
      have hkp := pos_at hk
      rw [hG1] at hP ⊢
      have hss := hG.ss
      have HH : Hid (∀ w, GrIs w B p (.slice (some ⟨g, 0, none⟩) R.length c) R G → ∃ R', R'.length = R.length ∧ GrIs (w.setCell ⟨g, k * 5 + 2, none⟩ (.int .i64 (now + G.ss))) B p (.slice (some ⟨g, 0, none⟩) R.length c) R' G1 ∧ Off (GrS p (.slice (some ⟨g, 0, none⟩) R.length c)) w (w.setCell ⟨g, k * 5 + 2, none⟩ (.int .i64 (now + G.ss)))) := Lib.hid (fun w hw => by rw [← hG1]; exact hw.hear hkR now)
      obtain ⟨b0, b1, b2, b3, b4, b5, b6, bl, _⟩ := gr7 h.box
      have HS : Hid (∀ w, GrIs w B p (.slice (some ⟨g, 0, none⟩) R.length c) R G → ∃ u, w.cell? ⟨p, 5, none⟩ = some (.int .i64 G.ss) ∧ w.cell? ⟨g, k * 5 + 2, none⟩ = some (.int .i64 u) ∧ w.frozen? ⟨g, k * 5 + 2, none⟩ = false ∧ p < w.heap.size ∧ g < w.heap.size) := Lib.hid (fun w hw => hw.hr hkR)
      have HE1 : Hid (∃ e, posM m G.L = some k ∧ e = (0 : Nat)) := Lib.hid ⟨0, hk, rfl⟩
      clear h hG ht hE hD hPp hTL hT hTS hK hk ef hG1 hl hkp
      by_cases hph : G1.ph = 2
      · have hph' : (G1.ph == 2) = true := by rw [hph]; rfl
        by_cases hm : m = leadM G1
        · have hm' : (m == leadM G1) = true := by rw [← hm]; simp
          have e2D : sync2D m T round G1 = dealD T round G1 := by unfold sync2D; rw [if_pos hph, if_pos hm]
          have e2E : sync2E m T G1 = dealE G1.L T := by unfold sync2E; rw [if_pos hph, if_pos hm]
          rw [e2D] at hP ⊢
          rw [e2E]
          have hgp : Hid (g ≠ p) := Lib.hid (by
            obtain ⟨x, hx⟩ : ∃ x, R[k]? = some x := ⟨_, List.getElem?_eq_getElem hkR⟩
            obtain ⟨g', c', e, _, _, hgp, _⟩ := HI.out.at_ hx
            have hgg : g = g' := by simpa [Value.ownBlock] using congrArg Value.ownBlock e
            rw [hgg]; exact hgp)
          clear e2D e2E hph hm
          rcases chk_cases (subsD G1.L) T with hE | hE
          · have hE' : dealE G1.L T = 0 := hE
            rw [hE', if_pos rfl]
            have HDE := Lib.hid hE'
            clear hE
            go_enter Tryz.func44, Tryz.ntmps44
            go_wp2_with fail
            with_reducible refine (ct _).mono ?_
            rintro e w1 ⟨rfl, hw9⟩
            have hw8 := hw9.symm
            subst hw8
            clear hw9
            go_wp2_with fail
            with_reducible refine ck.mono ?_
            rintro e w2 ⟨rfl, hb2⟩
            have HB2 := Lib.hid hb2
            have cf2 := cf _ hb2
            clear hb2 cf ct ck
            go_wp2_with fail
            with_reducible refine cf2.mono ?_
            rintro e w3 ⟨rfl, hb3⟩
            have HB3 := Lib.hid (HB2.out.trans (hb3.mono HB2.out.size))
            have I3 := HI.out.later HB3.out
            obtain ⟨u3, s1, s2, s3, s4, s5⟩ := HS.out _ I3
            obtain ⟨R4, hR4, h4, o4⟩ := HH.out _ I3
            have H4 := Lib.hid h4
            have O4 := Lib.hid ((Off.of_below (GrS p (.slice (some ⟨g, 0, none⟩) R.length c)) HB3.out).trans o4 (fun _ _ e => e))
            obtain ⟨z0, z1, z2, z3, z4, z5, z6, zl, _⟩ := gr7 h4.box
            have HR4 := Lib.hid hR4
            have HL0 : Hid (∃ x, R4[0]? = some x ∧ x.d.n = leadM G1) := Lib.hid (by
              have ha := H4.out.abs
              cases hRR : R4 with
              | nil => rw [hRR] at hR4; simp at hR4; omega
              | cons y RS =>
                rw [hRR] at ha
                refine ⟨y, rfl, ?_⟩
                unfold leadM
                rw [← ha]
                rfl)
            obtain ⟨y, hy, hyn⟩ := HL0.out
            obtain ⟨g4, c4, ev4, hgl4, _, _, q0, _⟩ := h4.at_ hy
            have hg4 : g4 = g := by simpa [Value.ownBlock] using (congrArg Value.ownBlock ev4).symm
            subst hg4
            rw [hyn, Nat.zero_mul] at q0
            have hT4 : TpIn _ A2 T := (fun hp => by
              obtain ⟨b, off, e, hlt, hc⟩ := HT.out hp
              exact ⟨b, off, e, Nat.lt_of_lt_of_le hlt O4.out.size, fun j x hx => ⟨(O4.out.cell (p := ⟨b, off + j * 2, none⟩) hlt (HTS.out hp ⟨b, off, none⟩ e)).trans (hc j x hx).1, (O4.out.cell (p := ⟨b, off + j * 2 + 1, none⟩) hlt (HTS.out hp ⟨b, off, none⟩ e)).trans (hc j x hx).2⟩⟩ : TpIn (w3.setCell ⟨g4, k * 5 + 2, none⟩ (.int .i64 (now + G.ss))) A2 T)
            have cdl := deal_c B p _ R4 G1 T A2 c2 round _ h4 hl1 (Nat.le_trans hBW O4.out.size) hTL1 hT4 hTl hTz
            rw [HDE.out] at cdl
            have hR0 : (0 : Int) < (R.length : Int) := by omega
            clear hb3 I3 h4 o4 hR4 cf2 ev4 hy hyn hT4 hE'
            generalize hi5 : k * 5 = i5 at *
            go_wp2_with fail
            with_reducible refine cdl.mono ?_
            rintro e w6 ⟨rfl, R6, hR6, h6, o6⟩
            obtain ⟨x5, hx5⟩ : ∃ x, R6[k]? = some x := ⟨_, List.getElem?_eq_getElem (by rw [hR6, HR4.out]; exact hkR)⟩
            obtain ⟨g5, c5, ev5, hg5l, _, _, r0, r1, r2, r3, r4, _⟩ := h6.at_ hx5
            have hg5 : g5 = g4 := by simpa [Value.ownBlock] using (congrArg Value.ownBlock ev5).symm
            subst hg5
            have hall5 := h6.all x5 (List.mem_of_getElem? hx5)
            obtain ⟨pA, pc, epv⟩ := own_slice hall5.pr
            have hin5 := prt_in (by have := hall5.pr; rw [epv] at this; exact this)
            have hmem : x5.d ∈ (dealD T round G1).L := by rw [← h6.abs]; exact List.mem_map_of_mem (List.mem_of_getElem? hx5)
            have ccp := cparts_c x5.d.P pA pc _ hin5 (hP _ hmem).1 (hP _ hmem).2
            have HPX : Hid (partAt k (dealD T round G1) = x5.d.P) := Lib.hid (by
              have hL5 : (dealD T round G1).L[k]? = some x5.d := by rw [← h6.abs, List.getElem?_map, hx5]; rfl
              unfold partAt; rw [hL5])
            rw [epv] at r4
            clear ev5 r0 r1 r2 r3 hall5 epv hx5
            have O6 := Lib.hid (O4.out.trans o6 (fun _ _ e => e))
            have H6 := Lib.hid h6
            clear cdl h6 o6 hR6 hmem hin5 hP
            rw [hi5] at r4
            go_wp2_with fail
            with_reducible refine ccp.mono ?_
            rintro e w7 ⟨A7, c7, rfl, hown7, hb7⟩
            go_wp2_with fail
            go_ret2
            rw [HPX.out]
            exact ⟨A7, c7, rfl, own_base2 hown7 O6.out.size, _, R6, H6.out.later hb7, O6.out.later hb7, fun k hk => .inl hk⟩
          · have hE' : dealE G1.L T = 1 := hE
            rw [hE', if_neg (by decide)]
            have HDE := Lib.hid hE'
            have HDD : Hid (dealD T round G1 = G1) := Lib.hid (by unfold dealD; rw [hE', if_neg (by decide)])
            clear hE hP
            go_enter Tryz.func44, Tryz.ntmps44
            go_wp2_with fail
            with_reducible refine (ct _).mono ?_
            rintro e w1 ⟨rfl, hw9⟩
            have hw8 := hw9.symm
            subst hw8
            clear hw9
            go_wp2_with fail
            with_reducible refine ck.mono ?_
            rintro e w2 ⟨rfl, hb2⟩
            have HB2 := Lib.hid hb2
            have cf2 := cf _ hb2
            clear hb2 cf ct ck
            go_wp2_with fail
            with_reducible refine cf2.mono ?_
            rintro e w3 ⟨rfl, hb3⟩
            have HB3 := Lib.hid (HB2.out.trans (hb3.mono HB2.out.size))
            have I3 := HI.out.later HB3.out
            obtain ⟨u3, s1, s2, s3, s4, s5⟩ := HS.out _ I3
            obtain ⟨R4, hR4, h4, o4⟩ := HH.out _ I3
            have H4 := Lib.hid h4
            have O4 := Lib.hid ((Off.of_below (GrS p (.slice (some ⟨g, 0, none⟩) R.length c)) HB3.out).trans o4 (fun _ _ e => e))
            obtain ⟨z0, z1, z2, z3, z4, z5, z6, zl, _⟩ := gr7 h4.box
            have HR4 := Lib.hid hR4
            have HL0 : Hid (∃ x, R4[0]? = some x ∧ x.d.n = leadM G1) := Lib.hid (by
              have ha := H4.out.abs
              cases hRR : R4 with
              | nil => rw [hRR] at hR4; simp at hR4; omega
              | cons y RS =>
                rw [hRR] at ha
                refine ⟨y, rfl, ?_⟩
                unfold leadM
                rw [← ha]
                rfl)
            obtain ⟨y, hy, hyn⟩ := HL0.out
            obtain ⟨g4, c4, ev4, hgl4, _, _, q0, _⟩ := h4.at_ hy
            have hg4 : g4 = g := by simpa [Value.ownBlock] using (congrArg Value.ownBlock ev4).symm
            subst hg4
            rw [hyn, Nat.zero_mul] at q0
            have hT4 : TpIn _ A2 T := (fun hp => by
              obtain ⟨b, off, e, hlt, hc⟩ := HT.out hp
              exact ⟨b, off, e, Nat.lt_of_lt_of_le hlt O4.out.size, fun j x hx => ⟨(O4.out.cell (p := ⟨b, off + j * 2, none⟩) hlt (HTS.out hp ⟨b, off, none⟩ e)).trans (hc j x hx).1, (O4.out.cell (p := ⟨b, off + j * 2 + 1, none⟩) hlt (HTS.out hp ⟨b, off, none⟩ e)).trans (hc j x hx).2⟩⟩ : TpIn (w3.setCell ⟨g4, k * 5 + 2, none⟩ (.int .i64 (now + G.ss))) A2 T)
            have cdl := deal_c B p _ R4 G1 T A2 c2 round _ h4 hl1 (Nat.le_trans hBW O4.out.size) hTL1 hT4 hTl hTz
            rw [HDE.out] at cdl
            have hR0 : (0 : Int) < (R.length : Int) := by omega
            clear hb3 I3 h4 o4 hR4 cf2 ev4 hy hyn hT4 hE'
            generalize hi5 : k * 5 = i5 at *
            go_wp2_with fail
            with_reducible refine cdl.mono ?_
            rintro e w6 ⟨rfl, R6, hR6, h6, o6⟩
            go_wp2_with fail
            go_ret2
            exact GotSy.no h6 (O4.out.trans o6 (fun _ _ e => e)) (fun k hk => .inl hk)
        · have hm' : (m == leadM G1) = false := beq_eq_false_iff_ne.2 hm
          have e2D : sync2D m T round G1 = G1 := by unfold sync2D; rw [if_pos hph, if_neg hm]
          have e2E : sync2E m T G1 = 13 := by unfold sync2E; rw [if_pos hph, if_neg hm]
          rw [e2D, e2E, if_neg (by decide)]
          have hgp : Hid (g ≠ p) := Lib.hid (by
            obtain ⟨x, hx⟩ : ∃ x, R[k]? = some x := ⟨_, List.getElem?_eq_getElem hkR⟩
            obtain ⟨g', c', e, _, _, hgp, _⟩ := HI.out.at_ hx
            have hgg : g = g' := by simpa [Value.ownBlock] using congrArg Value.ownBlock e
            rw [hgg]; exact hgp)
          clear e2D e2E hph hm hP
          go_enter Tryz.func44, Tryz.ntmps44
          go_wp2_with fail
          with_reducible refine (ct _).mono ?_
          rintro e w1 ⟨rfl, hw9⟩
          have hw8 := hw9.symm
          subst hw8
          clear hw9
          go_wp2_with fail
          with_reducible refine ck.mono ?_
          rintro e w2 ⟨rfl, hb2⟩
          have HB2 := Lib.hid hb2
          have cf2 := cf _ hb2
          clear hb2 cf ct ck
          go_wp2_with fail
          with_reducible refine cf2.mono ?_
          rintro e w3 ⟨rfl, hb3⟩
          have HB3 := Lib.hid (HB2.out.trans (hb3.mono HB2.out.size))
          have I3 := HI.out.later HB3.out
          obtain ⟨u3, s1, s2, s3, s4, s5⟩ := HS.out _ I3
          obtain ⟨R4, hR4, h4, o4⟩ := HH.out _ I3
          have H4 := Lib.hid h4
          have O4 := Lib.hid ((Off.of_below (GrS p (.slice (some ⟨g, 0, none⟩) R.length c)) HB3.out).trans o4 (fun _ _ e => e))
          obtain ⟨z0, z1, z2, z3, z4, z5, z6, zl, _⟩ := gr7 h4.box
          have HR4 := Lib.hid hR4
          have HL0 : Hid (∃ x, R4[0]? = some x ∧ x.d.n = leadM G1) := Lib.hid (by
            have ha := H4.out.abs
            cases hRR : R4 with
            | nil => rw [hRR] at hR4; simp at hR4; omega
            | cons y RS =>
              rw [hRR] at ha
              refine ⟨y, rfl, ?_⟩
              unfold leadM
              rw [← ha]
              rfl)
          obtain ⟨y, hy, hyn⟩ := HL0.out
          obtain ⟨g4, c4, ev4, hgl4, _, _, q0, _⟩ := h4.at_ hy
          have hg4 : g4 = g := by simpa [Value.ownBlock] using (congrArg Value.ownBlock ev4).symm
          subst hg4
          rw [hyn, Nat.zero_mul] at q0
          have hR0 : (0 : Int) < (R.length : Int) := by omega
          clear hb3 I3 h4 o4 hR4 cf2 ev4 hy hyn
          generalize hi5 : k * 5 = i5 at *
          go_wp2_with fail
          go_ret2
          exact GotSy.no H4.out O4.out (fun k hk => .inl hk)
      · have hph' : (G1.ph == 2) = false := beq_eq_false_iff_ne.2 hph
        have e2D : sync2D m T round G1 = G1 := by unfold sync2D; rw [if_neg hph]
        have e2E : sync2E m T G1 = 0 := by unfold sync2E; rw [if_neg hph]
        rw [e2D] at hP ⊢
        rw [e2E, if_pos rfl]
        clear e2D e2E hph
        go_enter Tryz.func44, Tryz.ntmps44
        go_wp2_with fail
        with_reducible refine (ct _).mono ?_
        rintro e w1 ⟨rfl, hw9⟩
        have hw8 := hw9.symm
        subst hw8
        clear hw9
        go_wp2_with fail
        with_reducible refine ck.mono ?_
        rintro e w2 ⟨rfl, hb2⟩
        have HB2 := Lib.hid hb2
        have cf2 := cf _ hb2
        clear hb2 cf ct ck
        go_wp2_with fail
        with_reducible refine cf2.mono ?_
        rintro e w3 ⟨rfl, hb3⟩
        have HB3 := Lib.hid (HB2.out.trans (hb3.mono HB2.out.size))
        have I3 := HI.out.later HB3.out
        obtain ⟨u3, s1, s2, s3, s4, s5⟩ := HS.out _ I3
        obtain ⟨R4, hR4, h4, o4⟩ := HH.out _ I3
        have H4 := Lib.hid h4
        have O4 := Lib.hid ((Off.of_below (GrS p (.slice (some ⟨g, 0, none⟩) R.length c)) HB3.out).trans o4 (fun _ _ e => e))
        obtain ⟨z0, z1, z2, z3, z4, z5, z6, zl, _⟩ := gr7 h4.box
        have HR4 := Lib.hid hR4
        obtain ⟨x5, hx5⟩ : ∃ x, R4[k]? = some x := ⟨_, List.getElem?_eq_getElem (by rw [hR4]; exact hkR)⟩
        obtain ⟨g5, c5, ev5, hg5l, _, _, r0, r1, r2, r3, r4, _⟩ := h4.at_ hx5
        have hg5 : g5 = g := by simpa [Value.ownBlock] using (congrArg Value.ownBlock ev5).symm
        subst hg5
        have hall5 := h4.all x5 (List.mem_of_getElem? hx5)
        obtain ⟨pA, pc, epv⟩ := own_slice hall5.pr
        have hin5 := prt_in (by have := hall5.pr; rw [epv] at this; exact this)
        have hmem : x5.d ∈ G1.L := by rw [← h4.abs]; exact List.mem_map_of_mem (List.mem_of_getElem? hx5)
        have ccp := cparts_c x5.d.P pA pc _ hin5 (hP _ hmem).1 (hP _ hmem).2
        have HPX : Hid (partAt k G1 = x5.d.P) := Lib.hid (by
          have hL5 : G1.L[k]? = some x5.d := by rw [← h4.abs, List.getElem?_map, hx5]; rfl
          unfold partAt; rw [hL5])
        rw [epv] at r4
        clear ev5 r0 r1 r2 r3 hall5 epv hx5
        clear hb3 I3 h4 o4 hR4 cf2 hmem hin5 hP
        generalize hi5 : k * 5 = i5 at *
        go_wp2_with fail
        with_reducible refine ccp.mono ?_
        rintro e w7 ⟨A7, c7, rfl, hown7, hb7⟩
        go_wp2_with fail
        go_ret2
        rw [HPX.out]
        exact ⟨A7, c7, rfl, own_base2 hown7 O4.out.size, _, R4, H4.out.later hb7, O4.out.later hb7, fun k hk => .inl hk⟩
    · have hE : syncE m gen T now G = knowE m gen G := by unfold syncE; rw [ht, if_pos rfl, if_neg hK]
      have hD : syncD m gen T round now G = G := by unfold syncD; rw [if_neg (fun e => hK e.2)]
      have hPp : syncP m gen T round now G = [] := by unfold syncP; rw [hE, if_neg hK]
      rw [hE, hD, hPp]
      have hK' : (knowE m gen G == 0) = false := beq_eq_false_iff_ne.2 hK
      obtain ⟨q, hq⟩ : ∃ q, knowE m gen G = q := ⟨_, rfl⟩
      rw [hq] at ck hK' ⊢
      clear h hG ht hE hD hP hTL hTz hT hTS hPp hK hq
      go_enter Tryz.func44, Tryz.ntmps44
      go_wp2_with fail
      with_reducible refine (ct _).mono ?_
      rintro e w1 ⟨rfl, hw9⟩
      have hw8 := hw9.symm
      subst hw8
      clear hw9
      go_wp2_with fail
      with_reducible refine ck.mono ?_
      rintro e w2 ⟨rfl, hb2⟩
      go_wp2_with fail
      go_ret2
      exact GotSy.no (HI.out.later hb2) (Off.of_below _ hb2) (fun k hk => .inl hk)
end Go.Proofs.YtlokhhjhckiloaaGreat
