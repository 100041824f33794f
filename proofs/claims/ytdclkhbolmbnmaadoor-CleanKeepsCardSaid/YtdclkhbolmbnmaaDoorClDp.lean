/- clean: the last batch of a producer is the one that none comes after: plain words. No condition. -/
import Derived.Test.YtdclkhbolmbnmaaDoorClDq
namespace Go.Proofs.YtdclkhbolmbnmaaDoor
open Go.RowKit Go.Maps Go.ChangeMaps Go.WideMaps
set_option linter.unusedVariables false
theorem Pr.ofId_ins {x : Pr.HE} {p : Int} : ∀ {F : List Pr.HE}, (∀ e ∈ F, e.id ≠ x.id) → Pr.ofId (Pr.insH x F) p = if p = x.id then some x else Pr.ofId F p
  | [], _ => by
    show Pr.ofId [x] p = _
    unfold Pr.ofId
    by_cases h : p = x.id
    · rw [if_pos h, List.find?_cons_of_pos (by simp [h])]
    · rw [if_neg h, List.find?_cons_of_neg (by simp; exact fun e => h e.symm)]
  | y :: r, hn => by
    have ih := Pr.ofId_ins (x := x) (p := p) (F := r) (fun e he => hn e (by simp [he]))
    unfold Pr.insH
    split
    · by_cases h : p = x.id
      · rw [if_pos h]
        unfold Pr.ofId
        rw [List.find?_cons_of_pos (by simp [h])]
      · rw [if_neg h]
        unfold Pr.ofId
        rw [List.find?_cons_of_neg (by simp; exact fun e => h e.symm)]
    · unfold Pr.ofId at ih ⊢
      by_cases hy : y.id = p
      · rw [List.find?_cons_of_pos (by simpa using hy), List.find?_cons_of_pos (by simpa using hy)]
        rw [if_neg (fun e => hn y (by simp) (hy.trans e))]
      · rw [List.find?_cons_of_neg (by simpa using hy), List.find?_cons_of_neg (by simpa using hy), ih]
theorem Pr.ofId_min {F : List Pr.HE} {n p : Int} (h : p ≠ n) : Pr.ofId (F.filter fun h => !decide (h.id = n)) p = Pr.ofId F p := by
  induction F with
  | nil => rfl
  | cons y r ih =>
    unfold Pr.ofId at *
    by_cases e : y.id = n
    · rw [List.filter_cons_of_neg (by simp [e]), List.find?_cons_of_neg (by simp [e]; exact fun e => h e.symm)]
      exact ih
    · rw [List.filter_cons_of_pos (by simp [e]), List.find?_cons, List.find?_cons, ih]
theorem Pr.ofId_put {x : Pr.HE} {F : List Pr.HE} {p : Int} : Pr.ofId (Pr.putF x F) p = if p = x.id then some x else Pr.ofId F p := by
  unfold Pr.putF
  rw [Pr.ofId_ins (fun e he => by have := (List.mem_filter.1 he).2; simpa using this)]
  split
  · rfl
  · rename_i h
    exact Pr.ofId_min h
def LastB (B : List BN) (p : Int) (o : Option Pr.HE) : Prop :=
  match o with
  | none => ∀ (n : Nat) (b : BN), B[n]? = some b → b.prod ≠ p
  | some e => ∃ (n : Nat) (b : BN), e.at_ = (n : Int) ∧ B[n]? = some b ∧ b.prod = p ∧ ∀ (m : Nat) (b' : BN), n < m → B[m]? = some b' → b'.prod ≠ p
theorem prd_take (B : List BN) (p : Int) : ∀ k, k ≤ B.length → LastB (B.take k) p (Pr.ofId (prdF 0 (B.take k) []) p)
  | 0, _ => by
    show LastB [] p none
    intro n b h
    simp at h
  | k + 1, hk => by
    have ih := prd_take B p k (by omega)
    have hx : B[k]? = some B[k] := List.getElem?_eq_getElem (by omega)
    have hlen : (B.take k).length = k := by rw [List.length_take]; omega
    rw [List.take_add_one, hx]
    show LastB (B.take k ++ [B[k]]) p (Pr.ofId (prdF 0 (B.take k ++ [B[k]]) []) p)
    rw [prdF_snoc, Pr.ofId_put, Nat.zero_add, hlen]
    generalize B.take k = C at *
    generalize B[k] = b at *
    have hlast : (C ++ [b])[k]? = some b := by rw [← hlen, List.getElem?_append_right (Nat.le_refl _), Nat.sub_self]; rfl
    have hbig : ∀ (m : Nat) (b' : BN), k < m → (C ++ [b])[m]? = some b' → False := fun m b' hm h => by
      have := (List.getElem?_eq_some_iff.1 h).1
      rw [List.length_append, hlen] at this
      have : m < k + 1 := this
      omega
    have hin : ∀ (m : Nat) (b' : BN), m ≠ k → (C ++ [b])[m]? = some b' → C[m]? = some b' := fun m b' hm h => by
      have h1 := (List.getElem?_eq_some_iff.1 h).1
      rw [List.length_append, hlen] at h1
      have h2 : m < k + 1 := h1
      rwa [List.getElem?_append_left (by omega)] at h
    have hout : ∀ (m : Nat) (b' : BN), C[m]? = some b' → (C ++ [b])[m]? = some b' := fun m b' h => by
      rw [List.getElem?_append_left (List.getElem?_eq_some_iff.1 h).1]; exact h
    by_cases hp : p = b.prod
    · rw [if_pos hp]
      exact ⟨k, b, rfl, hlast, hp.symm, fun m b' hm h => (hbig m b' hm h).elim⟩
    · rw [if_neg hp]
      cases ho : Pr.ofId (prdF 0 C []) p with
      | none =>
        rw [ho] at ih
        show ∀ (n : Nat) (b' : BN), (C ++ [b])[n]? = some b' → b'.prod ≠ p
        intro n b' h
        by_cases e : n = k
        · subst e
          rw [hlast] at h
          injection h with h
          subst h
          exact fun e => hp e.symm
        · exact ih n b' (hin n b' e h)
      | some e =>
        rw [ho] at ih
        obtain ⟨n, b1, h1, h2, h3, h4⟩ := ih
        refine ⟨n, b1, h1, hout n b1 h2, h3, fun m b' hm h => ?_⟩
        by_cases e : m = k
        · subst e
          rw [hlast] at h
          injection h with h
          subst h
          exact fun e => hp e.symm
        · exact h4 m b' hm (hin m b' e h)
/-- A producer's last batch stands there: none comes after it. -/
theorem prod_last {L : List BX} {i : Nat} {x : BX} (hx : L[i]? = some x) : (0 ≤ x.1.prod ∧ Pr.atH (Pr.ofId (prdF 0 (L.map (·.1)) []) x.1.prod) = (i : Int)) ↔ LastP L i x.1.prod := by
  have h := prd_take (L.map (·.1)) x.1.prod (L.map (·.1)).length (Nat.le_refl _)
  rw [List.take_length] at h
  have hget : ∀ (n : Nat) (z : BX), L[n]? = some z → (L.map (·.1))[n]? = some z.1 := fun n z hz => by rw [List.getElem?_map, hz]; rfl
  cases ho : Pr.ofId (prdF 0 (L.map (·.1)) []) x.1.prod with
  | none =>
    rw [ho] at h
    have h' : ∀ (n : Nat) (b : BN), (L.map (·.1))[n]? = some b → b.prod ≠ x.1.prod := h
    exact absurd rfl (h' i x.1 (hget i x hx))
  | some e =>
    rw [ho] at h
    obtain ⟨n, b, h1, h2, h3, h4⟩ := h
    show (0 ≤ x.1.prod ∧ e.at_ = (i : Int)) ↔ _
    rw [h1]
    constructor
    · rintro ⟨h0, hn⟩
      refine ⟨h0, fun m z hm hz => h4 m z.1 (by omega) (hget m z hz)⟩
    · rintro ⟨h0, hl⟩
      refine ⟨h0, ?_⟩
      have hni : ¬ i < n := fun hlt => by
        rw [List.getElem?_map] at h2
        cases hz : L[n]? with
        | none => rw [hz] at h2; cases h2
        | some z =>
          rw [hz] at h2
          have : z.1 = b := by injection h2
          exact hl n z hlt hz (by rw [this, h3])
      have hin : ¬ n < i := fun hlt => h4 i x.1 hlt (hget i x hx) rfl
      omega
end Go.Proofs.YtdclkhbolmbnmaaDoor
