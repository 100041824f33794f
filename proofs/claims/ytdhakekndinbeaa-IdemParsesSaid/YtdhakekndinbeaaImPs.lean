/- idem: what is read, as plain math: it is the same in any block; its numbers are within bounds. No condition. -/
import Derived.Test.YtdhakekndinbeaaImPd
namespace Go.Proofs.Ytdhakekndinbeaa
open Go.RowKit
set_option linter.unusedVariables false
def HE.at_ (x : HE) (g : Nat) : HE := { x with blk := g }
theorem itI_at (s : ByteArray) (x : HE) (r : Int × Int) (g : Nat) : ∀ k, itI s (x.at_ g, r) k = ((itI s (x, r) k).1.at_ g, (itI s (x, r) k).2)
  | 0 => rfl
  | k + 1 => by
    show stI s (itI s (x.at_ g, r) k) = ((stI s (itI s (x, r) k)).1.at_ g, (stI s (itI s (x, r) k)).2)
    rw [itI_at s x r g k]
    rfl
theorem pdI_at (s : ByteArray) (q e : Int) (g : Nat) : pdI s q e g = ((pdI s q e 0).1.at_ g, (pdI s q e 0).2) := by
  unfold pdI
  exact itI_at s ⟨0, 0, (nuI s 0 32768 q e).1, zeroR, 0, 0⟩ _ g _
/-- A number that was read is within its bounds, or zero behind an error. -/
theorem nuI_in (s : ByteArray) (l m q e : Int) : (l ≤ (nuI s l m q e).1 ∧ (nuI s l m q e).1 ≤ m ∧ (nuI s l m q e).2.2 = 0) ∨ ((nuI s l m q e).1 = 0 ∧ (nuI s l m q e).2.2 ≠ 0) := by
  unfold nuI
  split
  · split
    · split
      · rename_i h
        unfold witB at h
        simp only [Bool.and_eq_true, decide_eq_true_eq] at h
        exact .inl ⟨h.1, h.2, rfl⟩
      · exact .inr ⟨rfl, by show (3 : Int) ≠ 0; decide⟩
    · rename_i h
      exact .inr ⟨rfl, h⟩
  · rename_i h
    exact .inr ⟨rfl, h⟩
theorem nuI_err {s : ByteArray} {l m q e : Int} (h : e ≠ 0) : nuI s l m q e = (0, q, e) := by
  unfold nuI
  rw [if_neg h]
theorem seI_ok (s : ByteArray) (q e : Int) : okN (seI s q e).1 := by
  unfold seI okN
  simp only
  generalize nuI s 0 1099511627776 (nuI s 0 1073741824 q e).2.1 (nuI s 0 1073741824 q e).2.2 = r2
  have h1 := nuI_in s 0 1073741824 q e
  have h3 := nuI_in s 1 50 r2.2.1 r2.2.2
  omega
theorem itI_ok (s : ByteArray) (x : HE) (r : Int × Int) (h : ∀ k, k < 5 → okN (x.R k)) : ∀ n, ∀ k, k < 5 → okN ((itI s (x, r) n).1.R k)
  | 0 => h
  | n + 1 => by
    intro k hk
    exact updW_ok (itI_ok s x r h n) (seI_ok s _ _) k hk
theorem pdI_ok (s : ByteArray) (q e : Int) (g : Nat) : ∀ k, k < 5 → okN ((pdI s q e g).1.R k) := by
  unfold pdI
  exact itI_ok s _ _ (fun k _ => zero_ok) _
theorem itI_e (s : ByteArray) (x : HE) (r : Int × Int) : ∀ n, (itI s (x, r) n).1.e = x.e
  | 0 => rfl
  | n + 1 => itI_e s x r n
theorem pdI_e (s : ByteArray) (q e : Int) (g : Nat) : (pdI s q e g).1.e = (nuI s 0 32768 q e).1 := by
  unfold pdI
  exact itI_e s _ _ _
/-- Blocks that are not written keep what was heard. -/
theorem PdIs.off {S : Nat → Prop} {w w' : World} {p : Nat} {m : Option Nat} {F : List HE} (h : PdIs w p m F) (ho : Off S w w') (hp : ¬ S p) (hm : ∀ k, m = some k → ¬ S k) (hF : ∀ y ∈ F, ¬ S y.blk) : PdIs w' p m F := by
  refine ⟨h.box.off ho hp, ?_, fun y hy => ?_, h.blks, h.rise⟩
  · rcases h.map with h1 | ⟨g, hg, h1⟩
    · exact .inl h1
    · exact .inr ⟨g, hg, map_off h1 ho (hm g hg)⟩
  · have hy' := h.all y hy
    exact ⟨⟨hy'.pr.box.off ho (hF y hy), hy'.pr.f5, hy'.pr.c5⟩, hy'.ok, hy'.id⟩
end Go.Proofs.Ytdhakekndinbeaa
