/- A struct among cells. No condition. -/
import Derived.Test.YtmnmgbbdjpfonaaDoorOpen
namespace Go.Proofs.YtmnmgbbdjpfonaaDoor
open Go.RowKit Go.WideShapes Go.ChangeShapes Go.Deep
set_option linter.unusedVariables false
section
variable {H : Type} {enc : TypeId × Value → H} {P : Program} {w : World} {base : Nat} {sp : Nat → Bool} {held : Bool}
/-- A struct of one-cell fields among cells, each field by itself. -/
theorem trod_fields {t : TypeId} {fs : Array Field} {n : Nat} {cs : List Value} {y : DataW H × List MemPlace} (hs : P.underlying t = some (.struct fs)) (hone : oneCellFields P fs = true) (hC : P.cellsOf t = fs.size)
    (h : DataW.trod enc P w base sp held n t cs = some y) (hw : Weighs P t y.1) :
    ∃ n2, n2 < n ∧ cs.length = fs.size ∧ ∀ (j : Nat) (f : Field), fs[j]? = some f → ∃ (x : Value) (z : DataW H × List MemPlace), cs[j]? = some x ∧ DataW.trod enc P w base sp held n2 f.type [x] = some z ∧ Weighs P f.type z.1 := by
  obtain ⟨ys, n2, hn2, hy, hcl, hyl, hf⟩ := DataW.trod_struct hs h
  have hy1 : y.1 = .agg (ys.map (·.1)) := by
    first
      | exact congrArg Prod.fst hy
      | (simp only [Prod.mk.injEq] at hy; exact hy.1)
  rw [hy1] at hw
  refine ⟨n2, by omega, hcl.trans hC, fun j f hj => ?_⟩
  obtain ⟨ho, hk⟩ := hone_of hone j f hj
  have hjl : j < fs.size := (Array.getElem?_eq_some_iff.1 hj).1
  have hcl2 : j < cs.length := by rw [hcl, hC]; exact hjl
  have q := hf j f hj
  rw [ho, hk] at q
  have e1 : (cs.drop j).take 1 = [cs[j]] := by rw [List.drop_eq_getElem_cons hcl2]; rfl
  rw [e1] at q
  have hjy : j < ys.length := by rw [hyl]; exact hjl
  exact ⟨cs[j], ys[j], List.getElem?_eq_getElem hcl2, q.trans (List.getElem?_eq_getElem hjy), weighs_field hs hw hj (d := ys[j].1) (by simp [List.getElem?_eq_getElem hjy])⟩
end
end Go.Proofs.YtmnmgbbdjpfonaaDoor
