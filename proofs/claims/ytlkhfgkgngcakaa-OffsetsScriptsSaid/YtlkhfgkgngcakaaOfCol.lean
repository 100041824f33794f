/- offsets: the keys that have come out of its map, in whatever order: plain words. No condition. -/
import Derived.Test.YtlkhfgkgngcakaaOfCmp
import Derived.Sort.KeysCollected
namespace Go.Proofs.Ytlkhfgkgngcakaa
open Go.RowKit Go.Maps Go.ChangeMaps Go.WideMaps
set_option linter.unusedVariables false
theorem kyB_inj {x y : KY} (hx : KyOk x) (hy : KyOk y) (h : kyB x = kyB y) : x = y := by
  have h1 := kyKey x hx
  rw [h] at h1
  exact kyV_inj (kyKeyed.inj h1 (kyKey y hy))
/-- No key twice; a key is on the list just where the map has it and it is no longer to come. -/
def ColK (F : List KE) (left : Lit → Bool) (ss : List KY) : Prop := ss.Nodup ∧ ∀ x, x ∈ ss ↔ (KyOk x ∧ has (mapK F) (.string (kyB x)) = true ∧ left (.string (kyB x)) = false)
theorem ColK.start (F : List KE) : ColK F (has (mapK F)) [] := ⟨List.nodup_nil, fun x => by cases has (mapK F) (.string (kyB x)) <;> simp⟩
theorem ColK.step {F : List KE} {left : Lit → Bool} {ss : List KY} (h : ColK F left ss) {x : KY} (hx : KyOk x) {y : DataW Unit} (hlk : left (.string (kyB x)) = true) (hat : ∀ zd, (mapK F).atKey (.string (kyB x)) zd = y) : ColK F (fun z => left z && !z.sameKey (.string (kyB x))) (ss ++ [x]) := by
  have hhas : has (mapK F) (.string (kyB x)) = true := has_true_of_atKey hat
  have hnew : x ∉ ss := fun hx => by have := ((h.2 x).1 hx).2.2; rw [hlk] at this; cases this
  refine ⟨List.nodup_append.2 ⟨h.1, by simp, fun a ha b hb => by simp at hb; subst hb; exact fun e => hnew (e ▸ ha)⟩, fun y => ?_⟩
  by_cases hy : y = x
  · subst hy; simp [hhas, Lit.sameKey, hx]
  · rw [List.mem_append, List.mem_singleton, h.2 y]
    constructor
    · rintro (⟨h1, h2, h3⟩ | h1)
      · exact ⟨h1, h2, by show (left _ && _) = false; rw [h3]; rfl⟩
      · exact absurd h1 hy
    · rintro ⟨h1, h2, h3⟩
      refine .inl ⟨h1, h2, ?_⟩
      have hne : kyB y ≠ kyB x := fun e => hy (kyB_inj h1 hx e)
      have : ((Lit.string (kyB y)).sameKey (Lit.string (kyB x))) = false := by simp [Lit.sameKey, hne]
      simpa [this] using h3
/-- At the end. -/
theorem ColK.perm {F : List KE} {left : Lit → Bool} {ss : List KY} (h : ColK F left ss) (hF : ∀ e ∈ F, KyOk e.1) (hr : F.Pairwise fun a b => bytesBefore (kyB a.1) (kyB b.1) = true) (hl : ∀ kl, left kl = false) : ss.Perm (F.map (·.1)) := by
  refine (List.perm_ext_iff_of_nodup h.1 ?_).2 fun x => ?_
  · refine List.pairwise_map.2 (hr.imp ?_)
    intro a b hab e
    rw [e] at hab
    have := Go.WideAt.bytes_irrefl (kyB b.1)
    rw [this] at hab
    cases hab
  · rw [h.2 x, hl]
    unfold mapK
    rw [has_eq, List.any_eq_true, List.mem_map]
    constructor
    · rintro ⟨h1, ⟨p, hp, hs⟩, _⟩
      obtain ⟨e, he, rfl⟩ := List.mem_map.1 hp
      refine ⟨e, he, ?_⟩
      have : kyB e.1 = kyB x := by simpa [Lit.sameKey, entK] using hs
      exact kyB_inj (hF e he) h1 this
    · rintro ⟨e, he, rfl⟩
      exact ⟨hF e he, ⟨entK e, List.mem_map.2 ⟨e, he, rfl⟩, by simp [Lit.sameKey, entK]⟩, rfl⟩
/-- Those of a table, in their order. -/
def keysOf (F : List KE) : List KY := sortK (F.map (·.1))
end Go.Proofs.Ytlkhfgkgngcakaa
