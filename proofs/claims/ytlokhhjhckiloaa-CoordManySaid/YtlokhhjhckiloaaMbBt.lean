/- member: one field of one member; Beat, Leave, by contracts. No condition but that numbers are small. -/
import Derived.Test.YtlokhhjhckiloaaMbAdd
import Derived.RegionTactic
import Derived.Deep.RegionLaw
import Derived.BigRegion
import Derived.Deep.Cut
import Derived.Deep.CutRange
namespace Go.Proofs.Ytlokhhjhckiloaa
open Go.RowKit
set_option linter.unusedVariables false
theorem GrIs.field {w : World} {B p g c n : Nat} {R : List MV} {G : GD} {k : Nat} {x y : MV} (h : GrIs w B p (.slice (some ⟨g, 0, none⟩) n c) R G) (hn : R.length = n) (hx : R[k]? = some x) (i : Nat) (u : Value) (hi : i < 5) (he : (mvC x).set i u = mvC y)
    (ht : (y.tv = x.tv ∧ y.d.T = x.d.T) ∨ w.ownsRow B 9 1 y.tv y.d.T.length (strC y.d.T)) (hp : (y.pv = x.pv ∧ y.d.P = x.d.P) ∨ w.ownsRow B 42 2 y.pv y.d.P.length (prtC y.d.P)) :
    GrIs (w.setCell ⟨g, k * 5 + i, none⟩ u) B p (.slice (some ⟨g, 0, none⟩) n c) (R.set k y) { G with L := G.L.set k y.d } ∧ Off (GrS p (.slice (some ⟨g, 0, none⟩) n c)) w (w.setCell ⟨g, k * 5 + i, none⟩ u) := by
  subst hn
  have hl := (List.getElem?_eq_some_iff.1 hx).1
  have hr := h.row
  have hgp : g ≠ p := fun e => own_ne hr h.box (by decide) g rfl e
  have h3 := (hr.stored (k * 5 + i) u).1
  rw [mvR_set R k x hl y hx i u hi he] at h3
  have o := Off.one w ⟨g, k * 5 + i, none⟩ u
  have hb : Box (w.setCell ⟨g, k * 5 + i, none⟩ u) p _ _ := h.box.off o (fun e => hgp (show p = g from e).symm)
  have q : ∀ {t size n : Nat} {u' : Value} {xs : List Value}, w.ownsRow B t size u' n xs → t ≠ 61 → (w.setCell ⟨g, k * 5 + i, none⟩ u).ownsRow B t size u' n xs := fun hq hne => own_off hq o (fun j hj e => own_two hq hr hne j hj (by rw [show j = g from e]; rfl))
  have ho : Off (GrS p (.slice (some ⟨g, 0, none⟩) R.length c)) w (w.setCell ⟨g, k * 5 + i, none⟩ u) := o.mono (fun j _ e => .inr (by rw [show j = g from e]; rfl))
  refine ⟨h.rows2 (S := GrS p (.slice (some ⟨g, 0, none⟩) R.length c)) (G' := { G with L := G.L.set k y.d }) ho (fun j e => .inl e) hb (by rw [List.length_set]; exact h3) (fun z hz => ?_) ?_, ho⟩
  · rcases List.mem_or_eq_of_mem_set hz with hz | rfl
    · exact ⟨.inl ⟨z, hz, rfl, rfl⟩, .inl ⟨z, hz, rfl, rfl⟩⟩
    · refine ⟨?_, ?_⟩
      · rcases ht with ⟨e1, e2⟩ | ht
        · exact .inl ⟨x, List.mem_of_getElem? hx, e1.symm, e2.symm⟩
        · exact .inr (q ht (by decide))
      · rcases hp with ⟨e1, e2⟩ | hp
        · exact .inl ⟨x, List.mem_of_getElem? hx, e1.symm, e2.symm⟩
        · exact .inr (q hp (by decide))
  · rw [List.map_set, h.abs]
/-- A member's time. -/
def hearD (k : Nat) (now : Int) (G : GD) : GD := match G.L[k]? with | some x => { G with L := G.L.set k { x with u := now + G.ss } } | none => G
theorem GrIs.hear {w : World} {B p g c : Nat} {R : List MV} {G : GD} {k : Nat} (h : GrIs w B p (.slice (some ⟨g, 0, none⟩) R.length c) R G) (hk : k < R.length) (now : Int) :
    ∃ R', R'.length = R.length ∧ GrIs (w.setCell ⟨g, k * 5 + 2, none⟩ (.int .i64 (now + G.ss))) B p (.slice (some ⟨g, 0, none⟩) R.length c) R' (hearD k now G) ∧ Off (GrS p (.slice (some ⟨g, 0, none⟩) R.length c)) w (w.setCell ⟨g, k * 5 + 2, none⟩ (.int .i64 (now + G.ss))) := by
  obtain ⟨x, hx⟩ : ∃ x, R[k]? = some x := ⟨_, List.getElem?_eq_getElem hk⟩
  obtain ⟨h1, h2⟩ := h.field rfl hx (y := ⟨{ x.d with u := now + G.ss }, x.tv, x.pv⟩) 2 (.int .i64 (now + G.ss)) (by decide) rfl (.inl ⟨rfl, rfl⟩) (.inl ⟨rfl, rfl⟩)
  have hL : G.L[k]? = some x.d := by rw [← h.abs, List.getElem?_map, hx]; rfl
  have e : hearD k now G = { G with L := G.L.set k { x.d with u := now + G.ss } } := by unfold hearD; rw [hL]
  rw [e]
  exact ⟨_, by rw [List.length_set], h1, h2⟩
/-- The cells that a member's time wants. -/
def HrS (p g o : Nat) (ss u : Int) (w : World) : Prop := w.cell? ⟨p, 5, none⟩ = some (.int .i64 ss) ∧ w.cell? ⟨g, o, none⟩ = some (.int .i64 u) ∧ w.frozen? ⟨g, o, none⟩ = false ∧ p < w.heap.size ∧ g < w.heap.size
theorem HrS.later {p g o : Nat} {ss u : Int} {w w' : World} (h : w.cell? ⟨p, 5, none⟩ = some (.int .i64 ss) ∧ w.cell? ⟨g, o, none⟩ = some (.int .i64 u) ∧ w.frozen? ⟨g, o, none⟩ = false ∧ p < w.heap.size ∧ g < w.heap.size) (hb : Below w.heap.size w w') : w'.cell? ⟨p, 5, none⟩ = some (.int .i64 ss) ∧ w'.cell? ⟨g, o, none⟩ = some (.int .i64 u) ∧ w'.frozen? ⟨g, o, none⟩ = false ∧ p < w'.heap.size ∧ g < w'.heap.size :=
  ⟨(hb.cell (p := ⟨p, 5, none⟩) h.2.2.2.1).trans h.1, (hb.cell (p := ⟨g, o, none⟩) h.2.2.2.2).trans h.2.1, (World.frozen?_of_block (a := ⟨g, o, none⟩) (hb.block g h.2.2.2.2)).trans h.2.2.1, Nat.lt_of_lt_of_le h.2.2.2.1 hb.size, Nat.lt_of_lt_of_le h.2.2.2.2 hb.size⟩
theorem GrIs.hr {w : World} {B p g c : Nat} {R : List MV} {G : GD} {k : Nat} (h : GrIs w B p (.slice (some ⟨g, 0, none⟩) R.length c) R G) (hk : k < R.length) : ∃ u, w.cell? ⟨p, 5, none⟩ = some (.int .i64 G.ss) ∧ w.cell? ⟨g, k * 5 + 2, none⟩ = some (.int .i64 u) ∧ w.frozen? ⟨g, k * 5 + 2, none⟩ = false ∧ p < w.heap.size ∧ g < w.heap.size := by
  obtain ⟨x, hx⟩ : ∃ x, R[k]? = some x := ⟨_, List.getElem?_eq_getElem hk⟩
  obtain ⟨g', c', e, hgl, _, _, _, _, q2, _, _, hf⟩ := h.at_ hx
  injection e with e _ _
  injection e with e
  injection e with e
  subst e
  exact ⟨x.d.u, (h.box.cell 5).trans rfl, q2, hf _, h.box.lt, hgl⟩
/-- Beat. -/
def beatE (m gen now : Int) (G : GD) : Int := if timeB now = true then (if nameE m gen G = 0 then (if G.ph = 3 then 0 else 13) else nameE m gen G) else 1
def beatD (m gen now : Int) (G : GD) : GD := if timeB now = true ∧ nameE m gen G = 0 then (match posM m G.L with | some k => hearD k now G | none => G) else G
theorem name_pos {m gen : Int} {G : GD} (h : nameE m gen G = 0) : ∃ k, posM m G.L = some k := by
  unfold nameE at h
  cases hp : posM m G.L with
  | none => rw [hp] at h; cases h
  | some k => exact ⟨k, rfl⟩
end Go.Proofs.Ytlokhhjhckiloaa
