/- assign: shares under way, and give, by a contract. No condition. -/
import Derived.Test.YtlokhhjhckiloaaAsEmp
namespace Go.Proofs.Ytlokhhjhckiloaa
open Go.RowKit
set_option linter.unusedVariables false
/-- One more word for a member. -/
def updD (D : Nat → List TX) (m : Nat) (x : List TX) : Nat → List TX := fun k => if k = m then x else D k
theorem updD_at (D : Nat → List TX) (m : Nat) (x : List TX) : updD D m x m = x := by unfold updD; rw [if_pos rfl]
theorem updD_ne (D : Nat → List TX) {m k : Nat} (x : List TX) (h : k ≠ m) : updD D m x k = D k := by unfold updD; rw [if_neg h]
theorem own_base {w : World} {b b' t size n : Nat} {v : Value} {xs : List Value} (h : w.ownsRow b t size v n xs) (hb : b' ≤ b) : w.ownsRow b' t size v n xs := by
  refine ⟨h.1, ?_⟩
  rcases h.2 with h0 | ⟨g, cap, cur, rfl, hbg, hg, hr⟩
  · exact .inl h0
  · exact .inr ⟨g, cap, cur, rfl, Nat.le_trans hb hbg, hg, hr⟩
section
variable {base : Nat} {w w' : World} {v : Value} {R : List (Int × Value)} {D : Nat → List TX}
end
theorem tp_news {w : World} {q o : Nat} {N : List TX} (h : TpIn w (some ⟨q, o, none⟩) N) : ∀ j u, (prtC N)[j]? = some u → w.cell? ((⟨q, o, none⟩ : Addr).add j) = some u := by
  intro j u hu
  have e1 : (⟨q, o, none⟩ : Addr).add j = ⟨q, o + j, none⟩ := by unfold Addr.add; split <;> simp_all
  rw [e1]
  have hj : j < N.length * 2 := by rw [← prtC_len]; exact (List.getElem?_eq_some_iff.1 hu).1
  obtain ⟨b, off, e, hlt, hc⟩ := h (by omega)
  injection e with e
  injection e with e e'
  subst e; subst e'
  have hx : N[j / 2]? = some (N[j / 2]'(by omega)) := List.getElem?_eq_getElem (by omega)
  obtain ⟨h1, h2⟩ := hc _ _ hx
  obtain ⟨p1, p2⟩ := prtC_at hx
  rcases Nat.mod_two_eq_zero_or_one j with hm | hm
  · rw [show j / 2 * 2 = j by omega] at p1 h1
    rw [p1] at hu
    injection hu with hu
    rw [← hu]; exact h1
  · rw [show j / 2 * 2 + 1 = j by omega] at p2
    rw [show o + j / 2 * 2 + 1 = o + j by omega] at h2
    rw [p2] at hu
    injection hu with hu
    rw [← hu]; exact h2
end Go.Proofs.Ytlokhhjhckiloaa
