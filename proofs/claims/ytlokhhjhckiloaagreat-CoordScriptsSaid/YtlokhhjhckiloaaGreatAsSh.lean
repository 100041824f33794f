/- assign: shares under way, and give, by a contract. No condition. -/
import Derived.Test.YtlokhhjhckiloaaGreatAsEmp
namespace Go.Proofs.YtlokhhjhckiloaaGreat
open Go.RowKit
set_option linter.unusedVariables false
/-- One more word for a member. -/
def updD (D : Nat → List TX) (m : Nat) (x : List TX) : Nat → List TX := fun k => if k = m then x else D k
theorem updD_at (D : Nat → List TX) (m : Nat) (x : List TX) : updD D m x m = x := by unfold updD; rw [if_pos rfl]
theorem updD_ne (D : Nat → List TX) {m k : Nat} (x : List TX) (h : k ≠ m) : updD D m x k = D k := by unfold updD; rw [if_neg h]
/-- Shares in memory: each member's partitions lie in a row of their own. -/
structure ShIs (base : Nat) (w : World) (v : Value) (R : List (Int × Value)) (D : Nat → List TX) : Prop where
  row : w.ownsRow base 147 2 v R.length (shC R)
  parts : ∀ k r, R[k]? = some r → w.ownsRow base 34 2 r.2 (D k).length (prtC (D k))
  apart : ∀ (j k : Nat) (r r' : Int × Value), R[j]? = some r → R[k]? = some r' → ∀ b, r.2.ownBlock = some b → r'.2.ownBlock = some b → j = k
theorem own_base {w : World} {b b' t size n : Nat} {v : Value} {xs : List Value} (h : w.ownsRow b t size v n xs) (hb : b' ≤ b) : w.ownsRow b' t size v n xs := by
  refine ⟨h.1, ?_⟩
  rcases h.2 with h0 | ⟨g, cap, cur, rfl, hbg, hg, hr⟩
  · exact .inl h0
  · exact .inr ⟨g, cap, cur, rfl, Nat.le_trans hb hbg, hg, hr⟩
section
variable {base : Nat} {w w' : World} {v : Value} {R : List (Int × Value)} {D : Nat → List TX}
theorem ShIs.off {S : Nat → Prop} (h : ShIs base w v R D) (ho : Off S w w') (hS : ∀ k, S k → k < base ∨ w.heap.size ≤ k) : ShIs base w' v R D := by
  have q : ∀ {t size n : Nat} {u : Value} {xs : List Value}, w.ownsRow base t size u n xs → w'.ownsRow base t size u n xs := fun hr => own_off hr ho (fun k hk hs => by have := own_blk hr hk; rcases hS k hs with h | h <;> omega)
  exact ⟨q h.row, fun k r hr => q (h.parts k r hr), h.apart⟩
theorem ShIs.later (h : ShIs base w v R D) (hb : Below w.heap.size w w') : ShIs base w' v R D := h.off (Off.of_below (fun _ => False) hb) (fun _ x => x.elim)
theorem ShIs.base_le {b : Nat} (h : ShIs base w v R D) (hb : b ≤ base) : ShIs b w v R D := ⟨own_base h.row hb, fun k r hr => own_base (h.parts k r hr) hb, h.apart⟩
theorem ShIs.at_ {A : Option Addr} {n c : Nat} (h : ShIs base w (.slice A n c) R D) {m : Nat} {r : Int × Value} (hm : R[m]? = some r) : n = R.length ∧ ∃ g, A = some ⟨g, 0, none⟩ ∧ g < w.heap.size ∧ base ≤ g ∧ w.cell? ⟨g, m * 2, none⟩ = some (.int .i64 r.1) ∧ w.cell? ⟨g, m * 2 + 1, none⟩ = some r.2 ∧
    w.frozen? ⟨g, m * 2 + 1, none⟩ = false := by
  have hml := (List.getElem?_eq_some_iff.1 hm).1
  obtain ⟨A', c', e⟩ := own_slice h.row
  injection e with e1 e2 e3
  subst e1; subst e2; subst e3
  obtain ⟨g, rfl, hlt, hbg, _, hc⟩ := own_in h.row (by omega)
  exact ⟨rfl, g, rfl, hlt, hbg, hc _ _ (shC_at hm).1, hc _ _ (shC_at hm).2, h.row.frozenAt _⟩
theorem ShIs.put {g n c m : Nat} {r : Int × Value} {v' : Value} {X : List TX} (h : ShIs base w (.slice (some ⟨g, 0, none⟩) n c) R D) (hm : R[m]? = some r) {w1 : World} (hg : w.grownBy w1 r.2.ownBlock) (hr : w1.ownsRow base 34 2 v' X.length (prtC X))
    (hv : v'.ownBlock = r.2.ownBlock ∨ v'.ownBlock = some w.heap.size) : ShIs base (w1.setCell ⟨g, m * 2 + 1, none⟩ v') (.slice (some ⟨g, 0, none⟩) n c) (R.set m (r.1, v')) (updD D m X) := by
  have hml := (List.getElem?_eq_some_iff.1 hm).1
  obtain ⟨hn, _⟩ := h.at_ hm
  subst hn
  have hpm := h.parts m r hm
  have o1 : Off (fun k => r.2.ownBlock = some k) w w1 := (Off.refl (fun k => r.2.ownBlock = some k) w).grown hg (fun k e _ => e)
  have hrow1 := own_off h.row o1 (fun k hk hs => own_two h.row hpm (by decide) k hk hs)
  have hrow2 := (hrow1.stored (m * 2 + 1) v').1
  have hfar : ∀ {u : Value} {nn : Nat} {xs : List Value}, w1.ownsRow base 34 2 u nn xs → (w1.setCell ⟨g, m * 2 + 1, none⟩ v').ownsRow base 34 2 u nn xs := fun hu =>
    own_off hu (Off.one w1 ⟨g, m * 2 + 1, none⟩ v') (fun k hk e => own_two hu hrow1 (by decide) k hk (by rw [e]; rfl))
  refine ⟨?_, fun k q hq => ?_, fun j k q q' hq hq' b hb hb' => ?_⟩
  · rw [List.length_set, ← shC_set hm]
    exact hrow2
  · by_cases e : k = m
    · subst e
      rw [List.getElem?_set_self hml] at hq
      injection hq with hq
      subst hq
      rw [updD_at]
      exact hfar hr
    · rw [List.getElem?_set_ne (fun x => e x.symm)] at hq
      rw [updD_ne _ _ e]
      exact hfar (own_off (h.parts k q hq) o1 (fun b hb hs => e (h.apart k m q r hq hm b hb hs)))
  · by_cases e1 : j = m
    · by_cases e2 : k = m
      · rw [e1, e2]
      · exfalso
        subst e1
        rw [List.getElem?_set_self hml] at hq
        injection hq with hq
        subst hq
        rw [List.getElem?_set_ne (fun x => e2 x.symm)] at hq'
        rcases hv with hv | hv
        · rw [hv] at hb
          exact e2 (h.apart k j q' r hq' hm b hb' hb)
        · rw [hv] at hb
          injection hb with hb
          have := (own_blk (h.parts k q' hq') hb').2
          omega
    · by_cases e2 : k = m
      · exfalso
        subst e2
        rw [List.getElem?_set_self hml] at hq'
        injection hq' with hq'
        subst hq'
        rw [List.getElem?_set_ne (fun x => e1 x.symm)] at hq
        rcases hv with hv | hv
        · rw [hv] at hb'
          exact e1 (h.apart j k q r hq hm b hb hb')
        · rw [hv] at hb'
          injection hb' with hb'
          have := (own_blk (h.parts j q hq) hb).2
          omega
      · rw [List.getElem?_set_ne (fun x => e1 x.symm)] at hq
        rw [List.getElem?_set_ne (fun x => e2 x.symm)] at hq'
        exact h.apart j k q q' hq hq' b hb hb'
end
/-- What was given: one member's partitions are more. -/
def Gave (base g n c : Nat) (R : List (Int × Value)) (D : Nat → List TX) (m : Nat) (r : Int × Value) (N : List TX) (W : World) (e : Ending) (w' : World) : Prop :=
  ∃ v', e = .returned (.tuple #[]) ∧ ShIs base w' (.slice (some ⟨g, 0, none⟩) n c) (R.set m (r.1, v')) (updD D m (D m ++ N)) ∧ Off (fun k => k = g ∨ r.2.ownBlock = some k) W w' ∧ (∀ k, v'.ownBlock = some k → r.2.ownBlock = some k ∨ W.heap.size ≤ k)
theorem tp_news {w : World} {q o : Nat} {N : List TX} (h : TpIn w (some ⟨q, o, none⟩) N) : ∀ j u, (prtC N)[j]? = some u → w.cell? ((⟨q, o, none⟩ : Addr).add j) = some u := by
  intro j u hu
  have e1 : (⟨q, o, none⟩ : Addr).add j = ⟨q, o + j, none⟩ := by unfold Addr.add; split <;> simp_all
  rw [e1]
  have hj : j < N.length * 2 := by rw [← prtC_len]; exact (List.getElem?_eq_some_iff.1 hu).1
  obtain ⟨b, off, e, hlt, hc⟩ := h (by omega)
  injection e with e
  injection e with e e'
  subst e; subst e'
  have hx : N[j / 2]? = some (N[j / 2]'(by omega)) := List.getElem?_eq_getElem (by omega)
  obtain ⟨h1, h2⟩ := hc _ _ hx
  obtain ⟨p1, p2⟩ := prtC_at hx
  rcases Nat.mod_two_eq_zero_or_one j with hm | hm
  · rw [show j / 2 * 2 = j by omega] at p1 h1
    rw [p1] at hu
    injection hu with hu
    rw [← hu]; exact h1
  · rw [show j / 2 * 2 + 1 = j by omega] at p2
    rw [show o + j / 2 * 2 + 1 = o + j by omega] at h2
    rw [p2] at hu
    injection hu with hu
    rw [← hu]; exact h2
set_option maxHeartbeats 4000000 in
set_option maxRecDepth 100000 in
theorem give_c (base g n c m : Nat) (R : List (Int × Value)) (D : Nat → List TX) (r : Int × Value) (N : List TX) (q o c2 : Nat) (W : World) (h : ShIs base W (.slice (some ⟨g, 0, none⟩) n c) R D) (hm : R[m]? = some r) (hN : TpIn W (some ⟨q, o, none⟩) N)
    (hl : (D m).length + N.length ≤ 100000) (hbw : base ≤ W.heap.size) :
    Calls Tryz.prog 125 #[.pointer (some ⟨g, m * 2, none⟩), .slice (some ⟨q, o, none⟩) N.length c2] W (Gave base g n c R D m r N W) := by
  obtain ⟨hnR, g', e, hlt, hbg, y0, y1, f1⟩ := h.at_ hm
  subst hnR
  injection e with e
  injection e with e
  subst e
  obtain ⟨i0, hi, hz0, hz1, hz2⟩ := info_parts infoPart
  have hrow := h.parts m r hm
  have hn := tp_news hN
  have HH := Lib.hid h
  clear h hN
  go_enter Tryz.func125, Tryz.ntmps125
  go_wp2_with (at_builtin; refine wpList_append_own_at _ rfl _ _ 44 rfl base 34 i0 (.agg #[.string ⟨#[]⟩, .int .i64 0]) 2 24 Tryz.underlying44 hi hz0 hz1 hz2 rfl (by decide) r.2 (D m).length (prtC (D m)) rfl hrow ⟨q, o, none⟩ N.length c2 (prtC N) rfl (prtC_len N) hn (prtC_one N) (by unfold maxLen; omega) (by omega) hbw ?_)
  intro v' w5 hown' hgrow _ hat
  obtain ⟨B, e5, rfl⟩ := own_slice hown'
  have hrow1 := own_off HH.out.row ((Off.refl (fun k => r.2.ownBlock = some k) W).grown hgrow (fun k e _ => e)) (fun k hk hs => own_two HH.out.row (HH.out.parts m r hm) (by decide) k hk hs)
  have f5 := hrow1.frozenAt (m * 2 + 1)
  have y5 : w5.cell? ⟨g, m * 2 + 1, none⟩ = some r.2 := by
    obtain ⟨g2, e2, _, _, _, hc2⟩ := own_in hrow1 (show 0 < R.length from Nat.lt_of_le_of_lt (Nat.zero_le _) (List.getElem?_eq_some_iff.1 hm).1)
    injection e2 with e2
    injection e2 with e2
    subst e2
    exact hc2 _ _ (shC_at hm).2
  have HP := Lib.hid (HH.out.put hm hgrow (X := D m ++ N) (v' := .slice B ((D m).length + N.length) e5) (by rw [List.length_append, prtC_app]; exact hown') hat)
  have HO := Lib.hid (((Off.refl (fun k => k = g ∨ r.2.ownBlock = some k) W).grown hgrow (fun k e _ => .inr e)).set (p := ⟨g, m * 2 + 1, none⟩) (.inl (.inl rfl)) (.slice B ((D m).length + N.length) e5))
  have HV : Hid (∀ k, (Value.slice B ((D m).length + N.length) e5).ownBlock = some k → r.2.ownBlock = some k ∨ W.heap.size ≤ k) := Lib.hid (fun k hk => by
    rcases hat with hat | hat
    · rw [hat] at hk; exact .inl hk
    · rw [hat] at hk; injection hk with hk; exact .inr (by omega))
  clear hown' hgrow hrow1 hrow y0 y1 f1 hn hat
  go_wp2
  go_end0
  exact ⟨_, rfl, HP.out, HO.out, HV.out⟩
end Go.Proofs.YtlokhhjhckiloaaGreat
