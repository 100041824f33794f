/- idem: the document's reader: its number; within. No condition but the text's length. -/
import Derived.Test.YtdhakekndinbeaaImRo
import Derived.Test.YtdhakekndinbeaaRGet
import Derived.BigQuiet
import Derived.Deep.QuietTactic
import Derived.Deep.RegionWith
import Derived.Deep.AppendLies
import Derived.Deep.RegionLaw
import Derived.Test.YtdhakekndinbeaaImAm
import Derived.Test.YtdhakekndinbeaaImRp
namespace Go.Proofs.Ytdhakekndinbeaa
open Go.RowKit
set_option linter.unusedVariables false
set_option maxHeartbeats 2000000 in
set_option maxRecDepth 100000 in
theorem rrdn_c (s : ByteArray) (q e : Int) (b : Nat) (W : World) (hs : s.size ≤ 1152921504606846976) (h : Box W b 97 (rdC s q e)) :
    Calls Try.prog 50 #[.pointer (some ⟨b, 0, none⟩)] W (Moved W b 97 (.int .i64 (rdN s q e).1) s (rdN s q e).2.1 (rdN s q e).2.2) := by
  obtain ⟨c0, c1, c2, f1, f2⟩ := h.rd0
  by_cases he : e = 0
  · have hg := fun w => rget_c s q w hs
    have hr : rdN s q e = getG s q := by unfold rdN; rw [if_pos he]
    rw [hr]
    clear hr
    subst he
    have HB := Lib.hid h
    clear h
    generalize (getG s q).1 = n at *
    generalize (getG s q).2.1 = p at *
    generalize (getG s q).2.2 = er at *
    unfold Tri at hg
    go_enter Try.func50, Try.ntmps50
    go_wp2
    go_region_with (go_at_call 57; (with_reducible refine (hg _).mono ?_); rintro e w1 ⟨rfl, hb1⟩)
    all_goals
      have HB1 : Hid (Box w1 b 97 (rdC s q 0)) := Lib.hid (HB.out.drew.later hb1)
      obtain ⟨d0, d1, d2, g1, g2⟩ := HB1.out.rd0
      go_wp2
      go_ret
      exact ⟨rfl, rdC_set2 HB1.out, ((((Off.refl (· = b) W).drew).later hb1).set (.inl rfl) _).set (.inl rfl) _⟩
  · rw [rdN_err he]
    have HB := Lib.hid h
    have e1 : (e == 0) = false := by rw [beq_eq_false_iff_ne]; exact he
    have e2 : (e != 0) = true := by simpa using he
    clear h he
    go_enter Try.func50, Try.ntmps50
    go_wp2
    go_ret
    exact ⟨rfl, HB.out, Off.refl (· = b) W⟩
/-- What within says: the number, the place, the error. -/
def dnI (s : ByteArray) (l m q e : Int) : Int × Int × Int := if (rdN s q e).2.2 = 0 ∧ ((rdN s q e).1 < l ∨ m < (rdN s q e).1) then ((rdN s q e).1, (rdN s q e).2.1, 3) else rdN s q e
theorem rdC_set1 {w : World} {b : Nat} {t : TypeId} {s : ByteArray} {q e e' : Int} (h : Box w b t (rdC s q e)) : Box (w.setCell ⟨b, 2, none⟩ (.int .i64 e')) b t (rdC s q e') := h.set 2 _
set_option maxHeartbeats 4000000 in
set_option maxRecDepth 100000 in
theorem dwithin_c (s : ByteArray) (l m q e : Int) (b : Nat) (W : World) (hs : s.size ≤ 1152921504606846976) (h : Box W b 97 (rdC s q e)) :
    Calls Try.prog 41 #[.pointer (some ⟨b, 0, none⟩), .int .i64 l, .int .i64 m] W (Moved W b 97 (.int .i64 (dnI s l m q e).1) s (dnI s l m q e).2.1 (dnI s l m q e).2.2) := by
  have cn := rrdn_c s q e b W hs h
  unfold dnI
  generalize rdN s q e = r at *
  obtain ⟨n, p, er⟩ := r
  simp only at cn ⊢
  clear h
  by_cases he : er = 0
  · subst he
    by_cases h1 : n < l
    · rw [if_pos ⟨rfl, .inl h1⟩]
      go_enter Try.func41, Try.ntmps41
      go_wp2_with fail
      with_reducible refine cn.mono ?_
      rintro en w1 ⟨rfl, hx, ho⟩
      have HX := Lib.hid hx
      have HO := Lib.hid ho
      obtain ⟨c0, c1, c2, f1, f2⟩ := hx.rd0
      clear hx ho cn
      go_wp2_with fail
      go_ret
      exact ⟨rfl, rdC_set1 HX.out, HO.out.set (.inl rfl) _⟩
    · by_cases h2 : m < n
      · rw [if_pos ⟨rfl, .inr h2⟩]
        go_enter Try.func41, Try.ntmps41
        go_wp2_with fail
        with_reducible refine cn.mono ?_
        rintro en w1 ⟨rfl, hx, ho⟩
        have HX := Lib.hid hx
        have HO := Lib.hid ho
        obtain ⟨c0, c1, c2, f1, f2⟩ := hx.rd0
        clear hx ho cn
        go_wp2_with fail
        go_ret
        exact ⟨rfl, rdC_set1 HX.out, HO.out.set (.inl rfl) _⟩
      · rw [if_neg (fun e => e.2.elim h1 h2)]
        go_enter Try.func41, Try.ntmps41
        go_wp2_with fail
        with_reducible refine cn.mono ?_
        rintro en w1 ⟨rfl, hx, ho⟩
        have HX := Lib.hid hx
        have HO := Lib.hid ho
        obtain ⟨c0, c1, c2, f1, f2⟩ := hx.rd0
        clear hx ho cn
        go_wp2_with fail
        go_ret
        exact ⟨rfl, HX.out, HO.out⟩
  · have he1 : (er == (0 : Int)) = false := by simp [he]
    rw [if_neg (fun e => he e.1)]
    go_enter Try.func41, Try.ntmps41
    go_wp2_with fail
    with_reducible refine cn.mono ?_
    rintro en w1 ⟨rfl, hx, ho⟩
    have HX := Lib.hid hx
    have HO := Lib.hid ho
    obtain ⟨c0, c1, c2, f1, f2⟩ := hx.rd0
    clear hx ho cn he
    go_wp2_with fail
    go_ret
    exact ⟨rfl, HX.out, HO.out⟩
/-- The document's numbers against the program's: the same errors; where there is none, the same numbers. -/
theorem dn_err {s : ByteArray} {l m q e : Int} (h : e ≠ 0) : dnI s l m q e = (0, q, e) := by
  unfold dnI
  rw [rdN_err h, if_neg (fun x => h x.1)]
theorem dn_nu (s : ByteArray) (l m q e : Int) : (dnI s l m q e).2.2 = (nuI s l m q e).2.2 ∧ ((nuI s l m q e).2.2 = 0 → dnI s l m q e = nuI s l m q e) := by
  by_cases he : e = 0
  · subst he
    unfold dnI nuI rdN
    rw [if_pos rfl, if_pos rfl]
    generalize getG s q = g
    obtain ⟨n, p, er⟩ := g
    simp only
    by_cases hr : er = 0
    · subst hr
      rw [if_pos rfl]
      unfold witB
      by_cases hb : n < l ∨ m < n
      · rw [if_pos ⟨rfl, hb⟩, if_neg (by simp; omega)]
        exact ⟨rfl, fun h => by cases h⟩
      · rw [if_neg (fun x => hb x.2), if_pos (by simp; omega)]
        exact ⟨rfl, fun _ => rfl⟩
    · rw [if_neg (fun x => hr x.1), if_neg hr]
      exact ⟨rfl, fun h => absurd h hr⟩
  · rw [dn_err he, nuI_err he]
    exact ⟨rfl, fun _ => rfl⟩
def dsI (s : ByteArray) (q e : Int) : SN × Int × Int :=
  (((dnI s 0 1073741824 q e).1, (dnI s 0 1099511627776 (dnI s 0 1073741824 q e).2.1 (dnI s 0 1073741824 q e).2.2).1, (dnI s 1 50 (dnI s 0 1099511627776 (dnI s 0 1073741824 q e).2.1 (dnI s 0 1073741824 q e).2.2).2.1 (dnI s 0 1099511627776 (dnI s 0 1073741824 q e).2.1 (dnI s 0 1073741824 q e).2.2).2.2).1),
   (dnI s 1 50 (dnI s 0 1099511627776 (dnI s 0 1073741824 q e).2.1 (dnI s 0 1073741824 q e).2.2).2.1 (dnI s 0 1099511627776 (dnI s 0 1073741824 q e).2.1 (dnI s 0 1073741824 q e).2.2).2.2).2)
theorem ds_se (s : ByteArray) (q : Int) : (dsI s q 0).2.2 = (seI s q 0).2.2 ∧ ((seI s q 0).2.2 = 0 → dsI s q 0 = seI s q 0) := by
  unfold dsI seI
  obtain ⟨a1, a2⟩ := dn_nu s 0 1073741824 q 0
  by_cases ha : (nuI s 0 1073741824 q 0).2.2 = 0
  · rw [a2 ha]
    generalize nuI s 0 1073741824 q 0 = r at *
    obtain ⟨n1, q1, e1⟩ := r
    simp only at *
    subst ha
    obtain ⟨b1, b2⟩ := dn_nu s 0 1099511627776 q1 0
    by_cases hb : (nuI s 0 1099511627776 q1 0).2.2 = 0
    · rw [b2 hb]
      generalize nuI s 0 1099511627776 q1 0 = r at *
      obtain ⟨n2, q2, e2⟩ := r
      simp only at *
      subst hb
      obtain ⟨c1, c2⟩ := dn_nu s 1 50 q2 0
      refine ⟨c1, fun h => ?_⟩
      rw [c2 h]
    · have hb' : (dnI s 0 1099511627776 q1 0).2.2 ≠ 0 := by rw [b1]; exact hb
      rw [dn_err hb', nuI_err hb]
      exact ⟨b1, fun h => absurd h hb⟩
  · have ha' : (dnI s 0 1073741824 q 0).2.2 ≠ 0 := by rw [a1]; exact ha
    rw [dn_err ha', nuI_err ha]
    simp only
    rw [dn_err ha', nuI_err ha]
    exact ⟨a1, fun h => absurd h ha⟩
end Go.Proofs.Ytdhakekndinbeaa
/- idem: how the document reads, against how the program does: plain math. No condition. -/
namespace Go.Proofs.Ytdhakekndinbeaa
open Go.RowKit
set_option linter.unusedVariables false
theorem seI_err {s : ByteArray} {q e : Int} (h : e ≠ 0) : (seI s q e).2.2 = e := by
  unfold seI
  rw [nuI_err h]
  simp only
  rw [nuI_err h]
  simp only
  rw [nuI_err h]
/-- Behind an error nothing changes it. -/
theorem itI_latch {s : ByteArray} {t : HE × Int × Int} {j : Nat} {e : Int} (he : e ≠ 0) (h : (itI s t j).2.2 = e) : ∀ k, j ≤ k → (itI s t k).2.2 = e
  | 0, hk => by
    have : j = 0 := by omega
    subst this
    exact h
  | k + 1, hk => by
    by_cases hj : j = k + 1
    · subst hj; exact h
    · have ih := itI_latch he h k (by omega)
      show (stI s (itI s t k)).2.2 = e
      unfold stI
      show (seI s (itI s t k).2.1 (itI s t k).2.2).2.2 = e
      rw [seI_err (by rw [ih]; exact he), ih]
theorem pdI_err {s : ByteArray} {q e : Int} (h : e ≠ 0) : (pdI s q e 0).2.2 = e := by
  unfold pdI
  rw [nuI_err h]
  simp only
  rw [nuI_err h]
  exact itI_latch (j := 0) h rfl _ (Nat.zero_le _)
def he0 (ep : Int) : HE := ⟨0, 0, ep, zeroR, 0, 0⟩
/-- While a window is read. -/
def DIn (s : ByteArray) (p2 e2 ep k : Int) (j : Nat) (Ls : List SN) (q e : Int) : Prop :=
  (e ≠ 0 → (pdI s p2 e2 0).2.2 = e) ∧
  (e = 0 → (1 ≤ k ∧ k ≤ 5) ∧ (j : Int) ≤ k ∧ Ls.length = j ∧ ∃ q0, pdI s p2 e2 0 = itI s (he0 ep, q0, 0) k.toNat ∧ itI s (he0 ep, q0, 0) j = (Ls.foldl HE.more (he0 ep), q, 0))
theorem din_start {s : ByteArray} {p p2 e2 : Int} (h : e2 = 0 → p = p2) {ep q3 e3 k q4 e4 : Int} (h1 : dnI s 0 32768 p e2 = (ep, q3, e3)) (h2 : dnI s 1 5 q3 e3 = (k, q4, e4)) : DIn s p2 e2 ep k 0 [] q4 e4 := by
  by_cases he : e2 = 0
  · subst he
    obtain rfl := h rfl
    obtain ⟨a1, a2⟩ := dn_nu s 0 32768 p 0
    unfold DIn pdI
    by_cases ha : (nuI s 0 32768 p 0).2.2 = 0
    · rw [a2 ha] at h1
      rw [h1] at ha ⊢
      simp only at ha
      subst ha
      obtain ⟨b1, b2⟩ := dn_nu s 1 5 q3 0
      rw [h2] at b1 b2
      simp only at b1 b2 ⊢
      refine ⟨fun hne => ?_, fun hz => ?_⟩
      · refine itI_latch (j := 0) hne ?_ _ (Nat.zero_le _)
        exact b1.symm
      · subst hz
        have hb := b2 b1.symm
        have hin := nuI_in s 1 5 q3 0
        rw [← hb] at hin ⊢
        simp only at hin ⊢
        refine ⟨by omega, by omega, rfl, q4, rfl, rfl⟩
    · have he3 : e3 ≠ 0 := by rw [h1] at a1; simp only at a1; rw [a1]; exact ha
      rw [dn_err he3] at h2
      injection h2 with _ h2
      injection h2 with h3 h4
      refine ⟨fun _ => ?_, fun hz => absurd (h4.trans hz) he3⟩
      rw [nuI_err ha]
      simp only
      refine itI_latch (j := 0) (h4 ▸ he3) ?_ _ (Nat.zero_le _)
      rw [← h4, ← (by rw [h1] at a1; exact a1 : e3 = (nuI s 0 32768 p 0).2.2)]
      rfl
  · rw [dn_err he] at h1
    injection h1 with _ h1
    injection h1 with h3 h4
    rw [← h4, dn_err he] at h2
    injection h2 with _ h2
    injection h2 with h5 h6
    exact ⟨fun _ => (pdI_err he).trans h6, fun hz => absurd (h6.trans hz) he⟩
theorem din_step {s : ByteArray} {p2 e2 ep k q : Int} {j : Nat} {Ls : List SN} (h : DIn s p2 e2 ep k j Ls q 0) (hj : (j : Int) < k) : DIn s p2 e2 ep k (j + 1) (Ls ++ [(dsI s q 0).1]) (dsI s q 0).2.1 (dsI s q 0).2.2 := by
  obtain ⟨⟨k1, k5⟩, hjk, hl, q0, hp, hi⟩ := h.2 rfl
  obtain ⟨a1, a2⟩ := ds_se s q
  have hs : itI s (he0 ep, q0, 0) (j + 1) = ((Ls.foldl HE.more (he0 ep)).more (seI s q 0).1, (seI s q 0).2) := by
    show stI s (itI s (he0 ep, q0, 0) j) = _
    rw [hi]
    rfl
  refine ⟨fun hne => ?_, fun hz => ?_⟩
  · rw [hp]
    rw [a1] at hne ⊢
    exact itI_latch (j := j + 1) hne (by rw [hs]) _ (by omega)
  · have hz' := a1.symm.trans hz
    refine ⟨⟨k1, k5⟩, by omega, by rw [List.length_append, hl]; rfl, q0, hp, ?_⟩
    rw [hs, a2 hz', List.foldl_append]
    refine Prod.ext rfl ?_
    exact Prod.ext rfl hz'
theorem din_end {s : ByteArray} {p2 e2 ep k q : Int} {j : Nat} {Ls : List SN} (h : DIn s p2 e2 ep k j Ls q 0) (hj : ¬ (j : Int) < k) : (absH (pdI s p2 e2 0).1).2 = (ep, Ls) ∧ (pdI s p2 e2 0).2 = (q, 0) := by
  obtain ⟨⟨k1, k5⟩, hjk, hl, q0, hp, hi⟩ := h.2 rfl
  have : k.toNat = j := by omega
  rw [hp, this, hi]
  exact ⟨fold_zero ep 0 Ls (by omega), rfl⟩
/-- While the producers are read. -/
def DOut (s : ByteArray) (N : Int) (i : Nat) (id : Int) (G : List GH) (q e : Int) : Prop :=
  (e ≠ 0 → (psR s 0 0).2.2.2 = e) ∧
  (e = 0 → (0 ≤ N ∧ N ≤ 10000) ∧ (i : Int) ≤ N ∧ G.length = i ∧ (∀ g ∈ G, g.1 < id + 1) ∧ -1 ≤ id ∧ id ≤ 1073741824 ∧ psL s (N.toNat - i) (G, id + 1, q, 0) = psR s 0 0)
theorem dout_start {s : ByteArray} {N q e : Int} (h : dnI s 0 10000 0 0 = (N, q, e)) : DOut s N 0 (-1) [] q e := by
  obtain ⟨a1, a2⟩ := dn_nu s 0 10000 0 0
  rw [h] at a1 a2
  simp only at a1 a2
  unfold DOut psR
  refine ⟨fun hne => ?_, fun hz => ?_⟩
  · rw [psL_err s (by show (nuI s 0 10000 0 0).2.2 ≠ 0; rw [← a1]; exact hne)]
    exact a1.symm
  · subst hz
    have hb := a2 a1.symm
    have hin := nuI_in s 0 10000 0 0
    rw [← hb] at hin ⊢
    simp only at hin ⊢
    exact ⟨by omega, by omega, rfl, (fun g hg => by cases hg), by omega, by omega, rfl⟩
theorem dout_step {s : ByteArray} {N id q : Int} {i : Nat} {G : List GH} (h : DOut s N i id G q 0) (hi : (i : Int) < N) {id' p e2 : Int} (h1 : dnI s (id + 1) 1073741824 q 0 = (id', p, e2)) :
    ∃ p2, (e2 = 0 → p = p2) ∧ ∀ {ep k q' e' : Int} {j : Nat} {Ls : List SN}, DIn s p2 e2 ep k j Ls q' e' → (e' ≠ 0 ∨ ¬ (j : Int) < k) → DOut s N (i + 1) id' (G ++ [(id', ep, Ls)]) q' e' := by
  obtain ⟨n1, hiN, hl, hG, hd1, hd2, hp⟩ := h.2 rfl
  obtain ⟨a1, a2⟩ := dn_nu s (id + 1) 1073741824 q 0
  rw [h1] at a1 a2
  simp only at a1 a2
  refine ⟨(nuI s (id + 1) 1073741824 q 0).2.1, fun hz => ?_, fun {ep k q' e' j Ls} hD hend => ?_⟩
  · rw [← a2 (a1.symm.trans hz)]
  · have hst : psL s (N.toNat - i) (G, id + 1, q, 0) = psL s (N.toNat - (i + 1)) (stP s (G, id + 1, q, 0)) := by
      rw [show N.toNat - i = (N.toNat - (i + 1)) + 1 by omega]
      show (if (0 : Int) = 0 then _ else _) = _
      rw [if_pos rfl]
    have hsp : stP s (G, id + 1, q, 0) = (putG ((nuI s (id + 1) 1073741824 q 0).1, (absH (pdI s (nuI s (id + 1) 1073741824 q 0).2.1 e2 0).1).2) G, (nuI s (id + 1) 1073741824 q 0).1 + 1, (pdI s (nuI s (id + 1) 1073741824 q 0).2.1 e2 0).2) := by
      unfold stP
      simp only
      rw [← a1]
    rw [hst] at hp
    unfold DOut
    by_cases he : e' = 0
    · subst he
      refine ⟨fun hne => absurd rfl hne, fun _ => ?_⟩
      obtain ⟨b1, b2⟩ := din_end hD (hend.resolve_left (fun x => x rfl))
      have he2 : e2 = 0 := by
        by_cases hz : e2 = 0
        · exact hz
        · have := pdI_err (s := s) (q := (nuI s (id + 1) 1073741824 q 0).2.1) hz
          rw [b2] at this
          exact this.symm
      have hn := a2 (a1.symm.trans he2)
      have hin := nuI_in s (id + 1) 1073741824 q 0
      rw [hsp, b1, b2] at hp
      rw [← hn] at hp hin
      simp only at hp hin
      have hb : id + 1 ≤ id' ∧ id' ≤ 1073741824 := by omega
      refine ⟨n1, by omega, by rw [List.length_append, hl]; rfl, fun g hg => ?_, by omega, hb.2, ?_⟩
      · rcases List.mem_append.1 hg with hg | hg
        · have := hG g hg; omega
        · simp at hg
          subst hg
          show id' < id' + 1
          omega
      · rw [← hp, putG_end (y := (id', ep, Ls)) (fun g hg => by have := hG g hg; show g.1 < id'; omega)]
    · refine ⟨fun _ => ?_, fun hz => absurd hz he⟩
      have hb := hD.1 he
      rw [← hp, psL_err s (by rw [hsp]; show (pdI s _ e2 0).2.2 ≠ 0; rw [hb]; exact he), hsp]
      exact hb
theorem psR_le {s : ByteArray} (h : (psR s 0 0).2.2.2 = 0) : (psR s 0 0).2.2.1 ≤ s.size := by
  unfold psR at *
  obtain ⟨r, hr⟩ : ∃ r, nuI s 0 10000 0 0 = r := ⟨_, rfl⟩
  have o := fun hz => nuI_ok (s := s) (lo := 0) (hi := 10000) (q := 0) (e := 0) hz
  have hin := nuI_in s 0 10000 0 0
  rw [hr] at h o hin ⊢
  have hr0 : r.2.2 = 0 := by
    rcases hin with ⟨_, _, h⟩ | ⟨h0, hn⟩
    · exact h
    · rw [h0] at h
      exact h
  obtain ⟨_, s1, b1⟩ := o hr0
  obtain ⟨_, G, hk, hG, hsp, hb, hp⟩ := psL_back r.1.toNat [] 0 r.2.1 r.2.2 (Int.le_refl _) s1.bnd (fun g hg => by cases hg) h
  exact hsp.bnd.2
/-- What Parse comes to. -/
theorem dout_end {s : ByteArray} {N id q e : Int} {i : Nat} {G : List GH} (h : DOut s N i id G q e) (hi : e ≠ 0 ∨ ¬ (i : Int) < N) :
    (e ≠ 0 → paE s = e) ∧ (e = 0 → q = s.size → paE s = 0 ∧ (psR s 0 0).1 = G) ∧ (e = 0 → q ≠ s.size → paE s = 3) := by
  refine ⟨fun he => ?_, fun he hq => ?_, fun he hq => ?_⟩
  · unfold paE
    rw [h.1 he, if_neg he]
  · subst he
    obtain ⟨n1, hiN, hl, hG, hd1, hd2, hp⟩ := h.2 rfl
    rw [show N.toNat - i = 0 by have := hi.resolve_left (fun x => x rfl); omega] at hp
    unfold paE
    rw [← hp]
    show (if (0 : Int) = 0 then (if q < (s.size : Int) then (3 : Int) else 0) else _) = 0 ∧ _
    rw [if_pos rfl, if_neg (by omega)]
    exact ⟨rfl, rfl⟩
  · subst he
    obtain ⟨n1, hiN, hl, hG, hd1, hd2, hp⟩ := h.2 rfl
    rw [show N.toNat - i = 0 by have := hi.resolve_left (fun x => x rfl); omega] at hp
    have hle := psR_le (s := s) (by rw [← hp]; rfl)
    rw [← hp] at hle
    unfold paE
    rw [← hp]
    show (if (0 : Int) = 0 then (if q < (s.size : Int) then (3 : Int) else 0) else _) = 3
    have hle' : q ≤ s.size := hle
    rw [if_pos rfl, if_pos (by omega)]
end Go.Proofs.Ytdhakekndinbeaa
/- idem: the document's Parse, by a contract. No condition but the text's length. -/
namespace Go.Proofs.Ytdhakekndinbeaa
open Go.RowKit
set_option linter.unusedVariables false
theorem box_two {w : World} {p b : Nat} {t u : TypeId} {cs ds : Array Value} (h : Box w p t cs) (k : Box w b u ds) (hne : t ≠ u) : p ≠ b := fun e => by
  subst e
  unfold Box at h k
  rw [h] at k
  injection k with k
  injection k with _ k _
  exact hne k
theorem off_below {S : Nat → Prop} {w0 w w' : World} {B : Nat} (h : Off S w0 w) (hb : Below B w w') (hB : w0.heap.size ≤ B) : Off S w0 w' :=
  ⟨hb.os.trans h.os, hb.tape.trans h.tape, hb.output.trans h.output, Nat.le_trans h.size hb.size, fun k hk hs => (hb.block k (by omega)).trans (h.block k hk hs)⟩
theorem sn_own {w : World} {base n c : Nat} {A : Option Addr} {L : List SN} (h : w.ownsRow base 75 3 (.slice A n c) n (snC L)) (hn : L.length = n) : SnAt w (.slice A n c) L := sn_row h hn
/-- While the producers are read. -/
structure RzS (W : World) (b p : Nat) (s : ByteArray) (K : List RK) (A : Option Addr) (c : Nat) (q e : Int) (w : World) : Prop where
  rd : Box w b 97 (rdC s q e)
  rp : RpIs w W.heap.size p K A c
  bel : Below W.heap.size W w
theorem RzS.moved {W w w' : World} {b p c : Nat} {s : ByteArray} {K : List RK} {A : Option Addr} {q e q' e' : Int} (h : RzS W b p s K A c q e w) (ho : Off (· = b) w w') (hx : Box w' b 97 (rdC s q' e')) (hb : W.heap.size ≤ b) : RzS W b p s K A c q' e' w' := by
  refine ⟨hx, ⟨h.rp.box.off ho (box_two h.rp.box h.rd (by decide)), own_off h.rp.row ho (fun k e => own_ne h.rp.row h.rd (by decide) k e), fun x hx => (h.rp.sn x hx).off ho (fun g cur hg e => ?_)⟩, h.bel.trans (ho.below h.bel.size (fun k hk => by subst hk; exact hb))⟩
  have hr := h.rd
  have e' : g = b := e
  subst e'
  unfold Box at hr
  rw [hg] at hr
  injection hr with hr
  injection hr with _ hr _
  exact absurd hr (by decide)
theorem RzS.later {W w w' : World} {b p c : Nat} {s : ByteArray} {K : List RK} {A : Option Addr} {q e : Int} (h : RzS W b p s K A c q e w) (hb : Below w.heap.size w w') : RzS W b p s K A c q e w' :=
  ⟨h.rd.later hb, h.rp.later hb, h.bel.trans (hb.mono h.bel.size)⟩
/-- One is put behind the others. -/
theorem RzS.appended {W w w' : World} {b p c g cap : Nat} {s : ByteArray} {K : List RK} {A : Option Addr} {q e : Int} (h : RzS W b p s K A c q e w) {x : RK} (hx : SnAt w x.2 x.1.2.2) (hpb : W.heap.size ≤ p) {o : Obj}
    (hown : w'.ownsRow W.heap.size 73 3 (.slice (some ⟨g, 0, none⟩) (K.length + 1) cap) (K.length + 1) (rowK K ++ [.int .i64 x.1.1, .int .i64 x.1.2.1, x.2])) (hg : (w.drew.alloc o).grownBy w' (Value.slice A K.length c).ownBlock) :
    w'.cell? ⟨p, 0, none⟩ = some (.slice A K.length c) ∧ w'.frozen? ⟨p, 0, none⟩ = false ∧ RzS W b p s (K ++ [x]) (some ⟨g, 0, none⟩) cap q e (w'.setCell ⟨p, 0, none⟩ (.slice (some ⟨g, 0, none⟩) (K.length + 1) cap)) := by
  have hne := own_ne h.rp.row h.rp.box (by decide)
  have hne2 := own_ne h.rp.row h.rd (by decide)
  have hbA := (h.rp.box.drew).alloc o
  have hrA := (h.rd.drew).alloc o
  have hb' : Box w' p 28 #[.slice A K.length c] := (hg.block p hbA.lt (fun e => hne _ e.symm rfl)).trans hbA
  have hr' : Box w' b 97 (rdC s q e) := (hg.block b hrA.lt (fun e => hne2 _ e.symm rfl)).trans hrA
  have hpb2 := box_two h.rp.box h.rd (by decide)
  have hbw : Below W.heap.size W (w.drew.alloc o) := h.bel.trans ((((Below.refl W.heap.size w).drew).alloc (by have := h.bel.size; exact this) o))
  have hbw' : Below W.heap.size W w' := hbw.grown hg hbw.size (fun k e => (h.rp.row.lt k e).1)
  have hblk : ∀ k obj, w.heap[k]? = some obj → (∀ cur, obj ≠ Obj.cells cur 73 (0, 0)) → w'.heap[k]? = some obj := fun k obj hk hobj => by
    have hk' : (w.drew.alloc o).heap[k]? = some obj := (Below.heap_alloc w.drew o k (lt_of_there hk)).trans hk
    refine (hg.block k (lt_of_there hk') (fun e => ?_)).trans hk'
    rcases h.rp.row.2 with ⟨hv, _⟩ | ⟨g', cap', cur, hv, _, hh, _⟩
    · rw [hv] at e; simp [Value.ownBlock] at e
    · rw [hv] at e
      simp [Value.ownBlock] at e
      subst e
      rw [hk] at hh
      injection hh with hh
      exact hobj cur hh
  have hsn : ∀ v L, SnAt w v L → SnAt (w'.setCell ⟨p, 0, none⟩ (.slice (some ⟨g, 0, none⟩) (K.length + 1) cap)) v L := fun v L hv => by
    rcases hv with hv | ⟨g1, o1, c1, cur, e1, e2, e3⟩
    · exact .inl hv
    · refine .inr ⟨g1, o1, c1, cur, e1, ?_, e3⟩
      have h1 := hblk g1 _ e2 (fun cur' e => by injection e with _ e _; exact absurd e (by decide))
      refine (Below.heap_setCell w' ⟨p, 0, none⟩ _ g1 (fun e => ?_)).trans h1
      have e' : g1 = p := e
      subst e'
      have hb2 := hb'
      unfold Box at hb2
      rw [h1] at hb2
      injection hb2 with hb2
      injection hb2 with _ hb2 _
      exact absurd hb2 (by decide)
  refine ⟨(hb'.cell 0).trans rfl, hb'.frozen 0, ⟨hr'.far (fun e => hpb2 e.symm) _, ⟨?_, ?_, fun y hy => ?_⟩, ?_⟩⟩
  · show Box _ p _ #[.slice (some ⟨g, 0, none⟩) (K ++ [x]).length cap]
    rw [List.length_append]
    exact hb'.set 0 _
  · show World.ownsRow _ W.heap.size _ 3 (.slice (some ⟨g, 0, none⟩) (K ++ [x]).length cap) (K ++ [x]).length (rowK (K ++ [x]))
    rw [rowK_snoc, List.length_append]
    exact own_off hown (Off.one w' ⟨p, 0, none⟩ _) (fun k e => own_ne hown hb' (by decide) k e)
  · rcases List.mem_append.1 hy with hy | hy
    · exact hsn _ _ (h.rp.sn y hy)
    · simp at hy
      subst hy
      exact hsn _ _ hx
  · exact hbw'.trans ((Off.one w' ⟨p, 0, none⟩ _).below hbw'.size (fun k hk => by have e : k = p := hk; subst e; exact hpb))
/-- While a window is read. -/
structure RqI (w0 : World) (b o : Nat) (s : ByteArray) (id ep : Int) (A2 : Option Addr) (c2 : Nat) (Ls : List SN) (q e : Int) (w : World) : Prop where
  rd : Box w b 97 (rdC s q e)
  one : Box w o 73 #[.int .i64 id, .int .i64 ep, .slice A2 Ls.length c2]
  row : w.ownsRow (o + 1) 75 3 (.slice A2 Ls.length c2) Ls.length (snC Ls)
  off : Off (· = b) w0 w
  lo : w0.heap.size ≤ o
  bo : b < o
theorem RqI.moved {w0 w w' : World} {b o c2 : Nat} {s : ByteArray} {id ep q e q' e' : Int} {A2 : Option Addr} {Ls : List SN} (h : RqI w0 b o s id ep A2 c2 Ls q e w) (ho : Off (· = b) w w') (hx : Box w' b 97 (rdC s q' e')) : RqI w0 b o s id ep A2 c2 Ls q' e' w' :=
  ⟨hx, h.one.off ho (by have := h.bo; omega), own_off h.row ho (fun k e => own_ne h.row h.rd (by decide) k e), h.off.trans ho (fun i _ x => x), h.lo, h.bo⟩
theorem RqI.grow {w0 w w' : World} {b o c2 c3 g3 : Nat} {s : ByteArray} {id ep q e : Int} {A2 : Option Addr} {Ls : List SN} {t : SN} (h : RqI w0 b o s id ep A2 c2 Ls q e w) (hb : Below (o + 1) w w')
    (hr : w'.ownsRow (o + 1) 75 3 (.slice (some ⟨g3, 0, none⟩) (Ls.length + 1) c3) (Ls.length + 1) (snC (Ls ++ [t]))) : RqI w0 b o s id ep (some ⟨g3, 0, none⟩) c3 (Ls ++ [t]) q e (w'.setCell ⟨o, 2, none⟩ (.slice (some ⟨g3, 0, none⟩) (Ls.length + 1) c3)) := by
  have hbo := h.bo
  have h1 := h.rd.below hb (by omega)
  have h2 := h.one.below hb (Nat.lt_succ_self _)
  refine ⟨h1.far (by show b ≠ o; omega) _, ?_, ?_, ?_, h.lo, hbo⟩
  · rw [List.length_append]
    exact h2.set 2 _
  · rw [List.length_append]
    exact own_off hr (Off.one w' ⟨o, 2, none⟩ _) (fun k e => by have := (hr.lt k e).1; show k ≠ o; omega)
  · exact (off_below h.off hb (by have := h.lo; omega)).set (.inr h.lo) _
theorem sn3 {w : World} {x : Nat} {t : TypeId} {v0 v1 v2 : Value} (h : Box w x t #[v0, v1, v2]) : w.cell? ⟨x, 0, none⟩ = some v0 ∧ w.cell? ⟨x, 1, none⟩ = some v1 ∧ w.cell? ⟨x, 2, none⟩ = some v2 ∧ w.frozen? ⟨x, 0, none⟩ = false ∧ w.frozen? ⟨x, 1, none⟩ = false ∧ w.frozen? ⟨x, 2, none⟩ = false :=
  ⟨h.cell 0, h.cell 1, h.cell 2, h.frozen 0, h.frozen 1, h.frozen 2⟩
def GotRP (W : World) (s : ByteArray) (en : Ending) (w' : World) : Prop :=
  (paE s ≠ 0 ∧ en = .returned (.tuple #[.pointer none, .int .i64 (paE s)]) ∧ Below W.heap.size W w') ∨ (paE s = 0 ∧ ∃ p, en = .returned (.tuple #[.pointer (some ⟨p, 0, none⟩), .int .i64 0]) ∧ RO W p (psR s 0 0).1 w')
end Go.Proofs.Ytdhakekndinbeaa
/- idem: the document's Parse, by a contract: the walk. No condition but the text's length. -/
namespace Go.Proofs.Ytdhakekndinbeaa
open Go.RowKit
set_option linter.unusedVariables false
set_option maxHeartbeats 32000000 in
set_option maxRecDepth 100000 in
theorem rparse_c (s : ByteArray) (W : World) (hs : s.size ≤ 1152921504606846976) : Calls Try.prog 20 #[.string s] W (GotRP W s) := by
  obtain ⟨i0, hq, hqz, hqs, hqb⟩ := info_parts oneInfo
  have hB1 : Below W.heap.size W (W.alloc (.cells #[.string s, .int .i64 0, .int .i64 0] 97)) := (Below.refl _ _).alloc (Nat.le_refl _) _
  have hsz1 : (W.alloc (.cells #[.string s, .int .i64 0, .int .i64 0] 97)).heap.size = W.heap.size + 1 := Array.size_push ..
  have H0 : Hid (RzS W W.heap.size (W.heap.size + 1) s [] none 0 0 0 ((W.alloc (.cells #[.string s, .int .i64 0, .int .i64 0] 97)).alloc (.cells #[.slice none 0 0] 28))) := Lib.hid (by
    refine ⟨(Box.new W 97 (rdC s 0 0)).alloc _, ⟨?_, World.ownsRow_nil _ _ _ _, fun x hx => by cases hx⟩, hB1.alloc hB1.size _⟩
    have := Box.new (W.alloc (.cells #[.string s, .int .i64 0, .int .i64 0] 97)) 28 #[.slice none 0 0]
    rw [hsz1] at this
    exact this)
  clear hB1 hsz1
  obtain ⟨N, q1, e1, h1⟩ : ∃ N q1 e1, dnI s 0 10000 0 0 = (N, q1, e1) := ⟨_, _, _, rfl⟩
  have HD0 := Lib.hid (dout_start h1)
  have hbW : W.heap.size ≤ W.heap.size := Nat.le_refl _
  have hpW : W.heap.size ≤ W.heap.size + 1 := Nat.le_succ _
  have cw : ∀ {l m q e n q' e' : Int} (w : World), dnI s l m q e = (n, q', e') → Box w W.heap.size 97 (rdC s q e) → Calls Try.prog 41 #[.pointer (some ⟨W.heap.size, 0, none⟩), .int .i64 l, .int .i64 m] w (fun en w' => en = .returned (.int .i64 n) ∧ Box w' W.heap.size 97 (rdC s q' e') ∧ Off (· = W.heap.size) w w') := fun {l m q e n q' e'} w h hb => by
    have := dwithin_c s l m q e W.heap.size w hs hb
    rw [h] at this
    exact this
  have c1 := cw _ h1 H0.out.rd
  clear h1
  go_enter Try.func20, Try.ntmps20
  go_wp2_with fail
  with_reducible refine c1.mono ?_
  rintro en w1 ⟨rfl, hx, ho⟩
  have HS0 := Lib.hid (H0.out.moved ho hx hbW)
  clear c1 hx ho H0
  go_wp2_with fail
  go_loopw [7, 8] (fun d i wi => ∃ (id : Int) (k : Nat) (K : List RK) (A : Option Addr) (c : Nat) (q e : Int), d = .int .i64 id ∧ i = .int .i64 k ∧ RzS W W.heap.size (W.heap.size + 1) s K A c q e wi ∧ DOut s N k id (K.map (·.1)) q e) (fun _ i _ => N.toNat - (intOf i).toNat)
  case atStart => exact ⟨-1, 0, [], none, 0, q1, e1, rfl, rfl, HS0.out, HD0.out⟩
  case round =>
    obtain ⟨id, k, K, A, c, q, e, rfl, rfl, hS, hD⟩ := hrel
    have HS := Lib.hid hS
    have HD := Lib.hid hD
    clear hS hD HS0 HD0
    obtain ⟨x0, x1, x2, f1, f2⟩ := HS.out.rd.rd0
    by_cases hin : e = 0 ∧ (k : Int) < N
    · obtain ⟨rfl, hk⟩ := hin
      obtain ⟨⟨hN0, hN1⟩, _, hKl, _, hd1, hd2, _⟩ := HD.out.2 rfl
      rw [List.length_map] at hKl
      have HKL := Lib.hid hKl
      clear hKl
      have hw : IntKind.i64.wrap (id + 1) = id + 1 := by rw [IntKind.wrap_i64]; omega
      obtain ⟨id', q2, e2, h2⟩ : ∃ n q' e', dnI s (id + 1) 1073741824 q 0 = (n, q', e') := ⟨_, _, _, rfl⟩
      obtain ⟨ep, q3, e3, h3⟩ : ∃ n q' e', dnI s 0 32768 q2 e2 = (n, q', e') := ⟨_, _, _, rfl⟩
      obtain ⟨kk, q4, e4, h4⟩ : ∃ n q' e', dnI s 1 5 q3 e3 = (n, q', e') := ⟨_, _, _, rfl⟩
      obtain ⟨P2, hz, hst⟩ := dout_step HD.out hk h2
      have HD2a := Lib.hid (din_start hz h3 h4)
      have HST : Hid (∀ (q' e' : Int) (j : Nat) (Ls : List SN), DIn s P2 e2 ep kk j Ls q' e' → (e' ≠ 0 ∨ kk ≤ (j : Int)) → DOut s N (k + 1) id' (K.map (·.1) ++ [(id', ep, Ls)]) q' e') := Lib.hid (fun _ _ _ _ h hend => hst h (hend.imp (fun x => x) Int.not_lt.2))
      have HH := Lib.hid (And.intro h3 h4)
      have c2 := cw _ h2 HS.out.rd
      clear h2 h3 h4 hz hst
      go_wp2_with fail
      with_reducible refine c2.mono ?_
      rintro en w1 ⟨rfl, hx, ho⟩
      have HS1 := Lib.hid (HS.out.moved ho hx hbW)
      have c3 := cw _ HH.out.1 hx
      clear c2 hx ho HS x0 x1 x2 f1 f2 hw
      go_wp2_with fail
      with_reducible refine c3.mono ?_
      rintro en w2 ⟨rfl, hx, ho⟩
      have HS2 := Lib.hid (HS1.out.moved ho hx hbW)
      have hal : Below w2.heap.size w2 (w2.alloc (.cells #[.int .i64 id', .int .i64 ep, .slice none 0 0] 73)) := (Below.refl _ _).alloc (Nat.le_refl _) _
      have c4 := cw _ HH.out.2 (hx.later hal)
      have HON := Lib.hid (Box.new w2 73 #[.int .i64 id', .int .i64 ep, .slice none 0 0])
      have HOF := Lib.hid (Off.of_below (fun k => k = W.heap.size) hal)
      have hbl := hx.lt
      clear c3 hx ho HS1 hal
      go_wp2_with fail
      with_reducible refine c4.mono ?_
      rintro en w3 ⟨rfl, hx, ho⟩
      have HQ0 : Hid (RqI w2 W.heap.size w2.heap.size s id' ep none 0 [] q4 e4 w3) := Lib.hid ⟨hx, HON.out.off ho (by omega), World.ownsRow_nil _ _ _ _, HOF.out.trans ho (fun i _ x => x), Nat.le_refl _, hbl⟩
      clear c4 hx ho HON HOF HH hbl
      generalize w2.heap.size = o at *
      go_wp2_with fail
      go_loopw [11] (fun j wi => ∃ (jn : Nat) (A2 : Option Addr) (c2 : Nat) (Ls : List SN) (q e : Int), j = .int .i64 jn ∧ RqI w2 W.heap.size o s id' ep A2 c2 Ls q e wi ∧ DIn s P2 e2 ep kk jn Ls q e) (fun j _ => kk.toNat - (intOf j).toNat)
      case atStart => exact ⟨0, none, 0, [], q4, e4, rfl, HQ0.out, HD2a.out⟩
      case round =>
        obtain ⟨jn, A2, c2, Ls, q, e, rfl, hQ, hD2⟩ := hrel
        have HQ := Lib.hid hQ
        have HD2 := Lib.hid hD2
        clear hQ hD2 HQ0 HD2a
        obtain ⟨x0, x1, x2, f1, f2⟩ := HQ.out.rd.rd0
        by_cases hin : e = 0 ∧ (jn : Int) < kk
        · obtain ⟨rfl, hj⟩ := hin
          obtain ⟨⟨hk1, hk5⟩, _, hLl, _⟩ := HD2.out.2 rfl
          have HLL := Lib.hid hLl
          clear hLl
          obtain ⟨n1, q5, e5, h5⟩ : ∃ n q' e', dnI s 0 1073741824 q 0 = (n, q', e') := ⟨_, _, _, rfl⟩
          obtain ⟨n2, q6, e6, h6⟩ : ∃ n q' e', dnI s 0 1099511627776 q5 e5 = (n, q', e') := ⟨_, _, _, rfl⟩
          obtain ⟨n3, q7, e7, h7⟩ : ∃ n q' e', dnI s 1 50 q6 e6 = (n, q', e') := ⟨_, _, _, rfl⟩
          have hds : dsI s q 0 = ((n1, n2, n3), q7, e7) := by unfold dsI; rw [h5]; simp only; rw [h6]; simp only; rw [h7]
          have HD3 : Hid (DIn s P2 e2 ep kk (jn + 1) (Ls ++ [(n1, n2, n3)]) q7 e7) := Lib.hid (by
            have := din_step HD2.out hj
            rw [hds] at this
            exact this)
          have HH := Lib.hid (And.intro h6 h7)
          have hbl := HQ.out.rd.lt
          have hal : Below wr.heap.size wr (wr.alloc (.cells #[.int .i64 0, .int .i64 0, .int .i64 0] 75)) := (Below.refl _ _).alloc (Nat.le_refl _) _
          have c5 := cw _ h5 (HQ.out.rd.later hal)
          have HX0 := Lib.hid (Box.new wr 75 #[.int .i64 0, .int .i64 0, .int .i64 0])
          have HF0 := Lib.hid (Off.of_below (fun k => k = W.heap.size) hal)
          clear h5 h6 h7 hds hal
          go_wp2_with fail
          with_reducible refine c5.mono ?_
          rintro en w5 ⟨rfl, hx, ho⟩
          have hX := HX0.out.off ho (by omega)
          have HX1 := Lib.hid (hX.set 0 (.int .i64 n1))
          have HR1 := Lib.hid (hx.far (p := ⟨wr.heap.size, 0, none⟩) (by show W.heap.size ≠ wr.heap.size; omega) (.int .i64 n1))
          have HF1 := Lib.hid ((HF0.out.trans ho (fun i _ x => x)).set (p := ⟨wr.heap.size, 0, none⟩) (.inr (Nat.le_refl _)) (.int .i64 n1))
          obtain ⟨y0, y1, y2, g0, g1, g2⟩ := sn3 hX
          have c6 := cw _ HH.out.1 HR1.out
          clear c5 hx ho HX0 HF0 hX x0 x1 x2 f1 f2
          go_wp2_with fail
          with_reducible refine c6.mono ?_
          generalize (w5.setCell ⟨wr.heap.size, 0, none⟩ (.int .i64 n1)) = w5' at *
          rintro en w6 ⟨rfl, hx, ho⟩
          have hX : Box w6 wr.heap.size 75 #[.int .i64 n1, .int .i64 0, .int .i64 0] := HX1.out.off ho (by omega)
          have HX2 := Lib.hid (hX.set 1 (.int .i64 n2))
          have HR2 := Lib.hid (hx.far (p := ⟨wr.heap.size, 1, none⟩) (by show W.heap.size ≠ wr.heap.size; omega) (.int .i64 n2))
          have HF2 := Lib.hid ((HF1.out.trans ho (fun i _ x => x)).set (p := ⟨wr.heap.size, 1, none⟩) (.inr (Nat.le_refl _)) (.int .i64 n2))
          clear y0 y1 y2 g0 g1 g2 c6
          obtain ⟨y0, y1, y2, g0, g1, g2⟩ := sn3 hX
          have c7 := cw _ HH.out.2 HR2.out
          clear hx ho HX1 HR1 HF1 hX
          go_wp2_with fail
          with_reducible refine c7.mono ?_
          generalize (w6.setCell ⟨wr.heap.size, 1, none⟩ (.int .i64 n2)) = w6' at *
          rintro en w7 ⟨rfl, hx, ho⟩
          have hX : Box w7 wr.heap.size 75 #[.int .i64 n1, .int .i64 n2, .int .i64 0] := HX2.out.off ho (by omega)
          have HX3 : Hid (Box (w7.setCell ⟨wr.heap.size, 2, none⟩ (.int .i64 n3)) wr.heap.size 75 #[.int .i64 n1, .int .i64 n2, .int .i64 n3]) := Lib.hid (hX.set 2 (.int .i64 n3))
          have HR3 := Lib.hid (hx.far (p := ⟨wr.heap.size, 2, none⟩) (by show W.heap.size ≠ wr.heap.size; omega) (.int .i64 n3))
          have HF3 := Lib.hid ((HF2.out.trans ho (fun i _ x => x)).set (p := ⟨wr.heap.size, 2, none⟩) (.inr (Nat.le_refl _)) (.int .i64 n3))
          clear y0 y1 y2 g0 g1 g2 c7
          obtain ⟨y0, y1, y2, g0, g1, g2⟩ := sn3 hX
          have HQ3 := Lib.hid (HQ.out.moved HF3.out HR3.out)
          obtain ⟨o0, o1, o2⟩ := on3 HQ3.out.one
          obtain ⟨z0, z1, z2, _, _, _⟩ := sn3 HX3.out
          obtain ⟨g3, c3, w9, hr, hown, hc3, hbel9⟩ := sn_more HQ3.out.row (by have := HQ3.out.one.lt; omega) (by have := HLL.out; omega) (n1, n2, n3)
          rw [show (w7.setCell ⟨wr.heap.size, 2, none⟩ (.int .i64 n3)).heap.size = w7.heap.size by simp] at hr
          have HR := Lib.hid hr
          have HG := Lib.hid (HQ3.out.grow hbel9 hown)
          have hbx9 := HQ3.out.one.below hbel9 (Nat.lt_succ_self _)
          obtain ⟨u0, u1, u2⟩ := on3 hbx9
          have uf := hbx9.frozen 2
          clear hx ho HX2 HR2 HF2 hX hr hown hbel9 hbx9 HX3 HR3 HF3
          go_wp2_with (at_builtin; refine wpList_append_run rfl (.tmp 65) (.tmp 67) 71 rfl _ _ _ rfl rfl HR.out ?_)
          go_roundw
          case rel => exact ⟨jn + 1, some ⟨g3, 0, none⟩, c3, Ls ++ [(n1, n2, n3)], q7, e7, by go_num, HG.out, HD3.out⟩
          case measure => simp [intOf]; omega
        · have hex : ¬ ((jn : Int) < kk) ∨ ((jn : Int) < kk ∧ e ≠ 0) := by
            by_cases h : (jn : Int) < kk
            · exact .inr ⟨h, fun he => hin ⟨he, h⟩⟩
            · exact .inl h
          clear hin
          rcases hex with hj | ⟨hj, he⟩
          · have hend : e ≠ 0 ∨ ¬ ((jn : Int) < kk) := .inr hj
            have hX : SnAt wr (.slice A2 Ls.length c2) Ls := sn_own HQ.out.row rfl
            have HSN := HS2.out.moved HQ.out.off HQ.out.rd hbW
            have HO3 := Lib.hid (HST.out _ _ _ _ HD2.out (hend.imp (fun x => x) Int.not_lt.1))
            obtain ⟨o0, o1, o2⟩ := on3 (HQ.out.one.later (Below.refl wr.heap.size wr).drew)
            have pc := ((HSN.later (Below.refl wr.heap.size wr).drew).rp.box.cell 0).trans (show _ = some (Value.slice A K.length c) from rfl)
            have pc2 := ((HSN.later ((Below.refl wr.heap.size wr).alloc (Nat.le_refl _) (.cells #[.int .i64 id', .int .i64 ep, .slice A2 Ls.length c2] 73))).rp.box.cell 0).trans (show _ = some (Value.slice A K.length c) from rfl)
            have HF := Lib.hid (fun g cap w' hown hg => HSN.appended (w' := w') (g := g) (cap := cap) (x := ((id', ep, Ls), .slice A2 Ls.length c2)) hX hpW (o := .cells #[.int .i64 id', .int .i64 ep, .slice A2 Ls.length c2] 73) hown hg)
            have hrow := own_below (HSN.later (Below.refl wr.heap.size wr).drew).rp.row ((Below.refl wr.drew.heap.size wr.drew).alloc (Nat.le_refl _) (.cells #[.int .i64 id', .int .i64 ep, .slice A2 Ls.length c2] 73))
            have hnw := news_at (Box.new wr.drew 73 #[.int .i64 id', .int .i64 ep, .slice A2 Ls.length c2])
            have hbw : W.heap.size ≤ wr.heap.size := HSN.bel.size
            have h1c := rowK_one (w := wr) (K := [((id', ep, Ls), .slice A2 Ls.length c2)]) (fun x hx => by simp at hx; subst hx; exact hX)
            have hone : ∀ y ∈ [Value.int .i64 id', .int .i64 ep, .slice A2 Ls.length c2], y.oneCell' = true := h1c
            clear hX h1c HSN
            go_wp2_with fail
            go_region_law (refine step_append_lies (wr.alloc (.cells #[.int .i64 id', .int .i64 ep, .slice A2 Ls.length c2] 73)).drew rfl (.tmp 74) (.tmp 76) 26 rfl W.heap.size 73 i0 (.agg #[.int .i64 0, .int .i64 0, .slice none 0 0]) 3 40 Try.underlying26 hq hqz hqs hqb rfl (by decide) (.slice A K.length c) K.length (rowK K) (by simp [Act.eval]) hrow ⟨wr.heap.size, 0, none⟩ 1 1 [.int .i64 id', .int .i64 ep, .slice A2 Ls.length c2] (by simp [Act.eval]) rfl hnw hone (by decide) (by have := HKL.out; unfold maxLen; omega) (by have := HKL.out; omega) (by simp; omega) (wr.heap.size + 1) (by simp) ?_; intro g2 cap2 w4 hown4 hgrow4 hg4 hlt4; obtain ⟨k1, k2, k3⟩ := HF.out _ _ w4 hown4 hgrow4)
            all_goals
              have E3 := Lib.hid k3
              clear k3 hown4 hgrow4 hg4
              go_wp2_with fail
              go_roundw
              case rel => exact ⟨id', k + 1, K ++ [((id', ep, Ls), .slice A2 Ls.length c2)], some ⟨g2, 0, none⟩, cap2, q, e, rfl, by go_num, E3.out, by rw [List.map_append]; exact HO3.out⟩
              case measure => simp [intOf]; omega
          · have hend : e ≠ 0 ∨ ¬ ((jn : Int) < kk) := .inl he
            have he1 : (e == (0 : Int)) = false := by simp [he]
            have hX : SnAt wr (.slice A2 Ls.length c2) Ls := sn_own HQ.out.row rfl
            have HSN := HS2.out.moved HQ.out.off HQ.out.rd hbW
            have HO3 := Lib.hid (HST.out _ _ _ _ HD2.out (hend.imp (fun x => x) Int.not_lt.1))
            obtain ⟨o0, o1, o2⟩ := on3 (HQ.out.one.later (Below.refl wr.heap.size wr).drew)
            have pc := ((HSN.later (Below.refl wr.heap.size wr).drew).rp.box.cell 0).trans (show _ = some (Value.slice A K.length c) from rfl)
            have pc2 := ((HSN.later ((Below.refl wr.heap.size wr).alloc (Nat.le_refl _) (.cells #[.int .i64 id', .int .i64 ep, .slice A2 Ls.length c2] 73))).rp.box.cell 0).trans (show _ = some (Value.slice A K.length c) from rfl)
            have HF := Lib.hid (fun g cap w' hown hg => HSN.appended (w' := w') (g := g) (cap := cap) (x := ((id', ep, Ls), .slice A2 Ls.length c2)) hX hpW (o := .cells #[.int .i64 id', .int .i64 ep, .slice A2 Ls.length c2] 73) hown hg)
            have hrow := own_below (HSN.later (Below.refl wr.heap.size wr).drew).rp.row ((Below.refl wr.drew.heap.size wr.drew).alloc (Nat.le_refl _) (.cells #[.int .i64 id', .int .i64 ep, .slice A2 Ls.length c2] 73))
            have hnw := news_at (Box.new wr.drew 73 #[.int .i64 id', .int .i64 ep, .slice A2 Ls.length c2])
            have hbw : W.heap.size ≤ wr.heap.size := HSN.bel.size
            have h1c := rowK_one (w := wr) (K := [((id', ep, Ls), .slice A2 Ls.length c2)]) (fun x hx => by simp at hx; subst hx; exact hX)
            have hone : ∀ y ∈ [Value.int .i64 id', .int .i64 ep, .slice A2 Ls.length c2], y.oneCell' = true := h1c
            clear hX h1c HSN
            go_wp2_with fail
            go_region_law (refine step_append_lies (wr.alloc (.cells #[.int .i64 id', .int .i64 ep, .slice A2 Ls.length c2] 73)).drew rfl (.tmp 74) (.tmp 76) 26 rfl W.heap.size 73 i0 (.agg #[.int .i64 0, .int .i64 0, .slice none 0 0]) 3 40 Try.underlying26 hq hqz hqs hqb rfl (by decide) (.slice A K.length c) K.length (rowK K) (by simp [Act.eval]) hrow ⟨wr.heap.size, 0, none⟩ 1 1 [.int .i64 id', .int .i64 ep, .slice A2 Ls.length c2] (by simp [Act.eval]) rfl hnw hone (by decide) (by have := HKL.out; unfold maxLen; omega) (by have := HKL.out; omega) (by simp; omega) (wr.heap.size + 1) (by simp) ?_; intro g2 cap2 w4 hown4 hgrow4 hg4 hlt4; obtain ⟨k1, k2, k3⟩ := HF.out _ _ w4 hown4 hgrow4)
            all_goals
              have E3 := Lib.hid k3
              clear k3 hown4 hgrow4 hg4
              go_wp2_with fail
              go_roundw
              case rel => exact ⟨id', k + 1, K ++ [((id', ep, Ls), .slice A2 Ls.length c2)], some ⟨g2, 0, none⟩, cap2, q, e, rfl, by go_num, E3.out, by rw [List.map_append]; exact HO3.out⟩
              case measure => simp [intOf]; omega
    · have hex : (¬ ((k : Int) < N) ∧ e = 0) ∨ (¬ ((k : Int) < N) ∧ e ≠ 0) ∨ ((k : Int) < N ∧ e ≠ 0) := by
        by_cases h : (k : Int) < N
        · exact .inr (.inr ⟨h, fun he => hin ⟨he, h⟩⟩)
        · by_cases he : e = 0
          · exact .inl ⟨h, he⟩
          · exact .inr (.inl ⟨h, he⟩)
      clear hin
      rcases hex with ⟨hk, rfl⟩ | ⟨hk, he⟩ | ⟨hk, he⟩
      · obtain ⟨_, r2, r3⟩ := dout_end HD.out (.inr hk)
        by_cases hqs2 : q = (s.size : Int)
        · obtain ⟨p1, p2⟩ := r2 rfl hqs2
          have HP := Lib.hid (And.intro p1 p2)
          have hq1 : (q != (s.size : Int)) = false := by rw [hqs2]; simp
          clear r2 r3 p1 p2
          go_wp2_with fail
          go_ret2
          refine .inr ⟨HP.out.1, W.heap.size + 1, rfl, ⟨⟨K, A, c, HS.out.rp, HP.out.2.symm⟩, hpW, (print_parse HP.out.1).2.1, HS.out.bel⟩⟩
        · have HP := Lib.hid (r3 rfl hqs2)
          have hq1 : (q != (s.size : Int)) = true := by simpa using hqs2
          have HRD := Lib.hid (rdC_set1 (e' := 3) HS.out.rd)
          have HBL := Lib.hid (HS.out.bel.trans ((Off.one wr ⟨W.heap.size, 2, none⟩ (.int .i64 3)).below HS.out.bel.size (fun k hk => by have e : k = W.heap.size := hk; omega)))
          clear r2 r3 hqs2
          go_wp2_with fail
          go_region_with (fail)
          all_goals
            go_wp2_with fail
            go_ret2
            refine .inl ⟨by rw [HP.out]; decide, by rw [HP.out]; rfl, HBL.out.drew⟩
      all_goals
        have HP := Lib.hid ((dout_end HD.out (.inl he)).1 he)
        have he1 : (e == (0 : Int)) = false := by simp [he]
        have he2 : (e != (0 : Int)) = true := by simpa using he
        have HE := Lib.hid he
        have HBL := Lib.hid HS.out.bel
        clear he
        go_wp2_with fail
        go_region_with (fail)
        all_goals
          go_wp2_with fail
          go_ret2
          refine .inl ⟨by rw [HP.out]; exact HE.out, by rw [HP.out]; rfl, HBL.out.drew⟩
end Go.Proofs.Ytdhakekndinbeaa
/- idem: the law IdemParses walks to true. No condition. -/
namespace Go.Proofs.Ytdhakekndinbeaa
open Go.RowKit
set_option linter.unusedVariables false
theorem RO.lower {W w w' : World} {p : Nat} {G : List GH} (h : RO w p G w') (hb : Below W.heap.size W w) : RO W p G w' := by
  obtain ⟨K, A, c, h1, h2⟩ := h.is
  have hs := hb.size
  exact ⟨⟨K, A, c, ⟨h1.box, own_base' h1.row hs, h1.sn⟩, h2⟩, Nat.le_trans hs h.le, h.ok, hb.trans (h.bel.mono hs)⟩
set_option maxHeartbeats 16000000 in
set_option maxRecDepth 100000 in
theorem idemParses_walk (s : ByteArray) (W : World) (hs : s.size ≤ 140737488351232) : Calls Try.prog 4 #[.string s] W (Yes W) := by
  have cl := fun w => live_c w
  unfold Yes at cl
  by_cases hg : 3000 < s.size
  · have hgi : (3000 : Int) < (s.size : Int) := by omega
    clear hg
    go_enter Try.func4, Try.ntmps4
    go_wp2_with fail
    with_reducible refine (cl _).mono ?_
    rintro en w1 ⟨rfl, hb⟩
    have HB := Lib.hid hb
    clear hb
    go_wp2_with fail
    go_ret
    exact ⟨rfl, HB.out⟩
  · have hgi : ¬ (3000 : Int) < (s.size : Int) := by omega
    have hs2 : s.size ≤ 1152921504606846976 := by omega
    have cp := parse_po s (Below.refl W.heap.size W) hs2
    have cr := fun w => rparse_c s w hs2
    unfold GotPO dp at cp
    unfold GotRP at cr
    clear hg
    by_cases hz : paE s = 0
    · obtain ⟨e1, e2, e3⟩ := print_parse hz
      have HZ := Lib.hid hz
      have HE := Lib.hid e1
      have HL := Lib.hid e3
      clear hz e1 e2 e3
      go_enter Try.func4, Try.ntmps4
      go_wp2_with fail
      with_reducible refine cp.mono ?_
      rintro en w1 (⟨h0, _⟩ | ⟨_, p, rfl, h1, hb1⟩)
      · exact absurd HZ.out h0
      have H1 := Lib.hid h1
      clear cp h1 hb1
      go_wp2_with fail
      with_reducible refine (cr _).mono ?_
      rintro en w2 (⟨h0, _⟩ | ⟨_, q, rfl, h2⟩)
      · exact absurd HZ.out h0
      have H2 := Lib.hid (h2.lower H1.out.bel)
      have H3 := Lib.hid (H1.out.later h2.bel)
      clear cr h2 H1
      go_wp2_with fail
      with_reducible refine (print_v H3.out (by have := HL.out; omega)).mono ?_
      rintro en w3 ⟨rfl, h3, hb3⟩
      have H4 := Lib.hid (H2.out.later hb3)
      have H5 := Lib.hid h3
      clear h3 hb3 H2 H3
      rw [HE.out]
      go_wp2_with fail
      with_reducible refine (H4.out.print (by have := HL.out; omega)).mono ?_
      rintro en w4 ⟨rfl, h4, hb4⟩
      have H6 := Lib.hid (H5.out.later hb4)
      clear h4 hb4 H4 H5
      rw [HE.out]
      go_wp2_with fail
      with_reducible refine (cl _).mono ?_
      rintro en w5 ⟨rfl, hb⟩
      have HB := Lib.hid (H6.out.later hb)
      clear hb
      go_wp2_with fail
      go_ret
      exact ⟨rfl, HB.out.bel⟩
    · have HZ := Lib.hid hz
      go_enter Try.func4, Try.ntmps4
      clear hz
      go_wp2_with fail
      with_reducible refine cp.mono ?_
      rintro en w1 (⟨_, rfl, hb1⟩ | ⟨h0, _⟩)
      case inr => exact absurd h0 HZ.out
      have H1 := Lib.hid hb1
      clear cp hb1
      go_wp2_with fail
      with_reducible refine (cr _).mono ?_
      rintro en w2 (⟨_, rfl, hb2⟩ | ⟨h0, _⟩)
      case inr => exact absurd h0 HZ.out
      have H2 := Lib.hid (H1.out.trans (hb2.mono H1.out.size))
      clear cr hb2
      go_wp2_with fail
      with_reducible refine (cl _).mono ?_
      rintro en w5 ⟨rfl, hb⟩
      have HB := Lib.hid (H2.out.trans (hb.mono H2.out.size))
      clear hb
      go_wp2_with fail
      go_ret
      exact ⟨rfl, HB.out⟩
end Go.Proofs.Ytdhakekndinbeaa
