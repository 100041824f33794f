/- match: two filters and a record, boxed. No condition. -/
import Derived.Test.YtmnmgbbdjpfonaaDoorMtNd
namespace Go.Proofs.YtmnmgbbdjpfonaaDoor
open Go.RowKit
set_option linter.unusedVariables false
/-- The three boxes that a law reads. -/
structure B3 (W : World) (t : Tr) (A : Option Addr) (c n : Nat) (u : Tr) (B : Option Addr) (e m : Nat) (r : Rec) (Ar : Option Addr) (cr : Nat) (w : World) : Prop where
  bel : Below W.heap.size W w
  bx : Box w W.heap.size 24 (exC t A c)
  bu : Box w (W.heap.size + 1) 24 (exC u B e)
  br : Box w (W.heap.size + 1 + 1) 27 (recC r Ar cr)
  tree : TrAt (fun _ => True) w n A t
  tree2 : TrAt (fun _ => True) w m B u
  rin : RIn w r Ar cr
  tabs : Tabs w
section
variable {W w w' : World} {t u : Tr} {A B : Option Addr} {c n e m : Nat} {r : Rec} {Ar : Option Addr} {cr : Nat}
theorem B3.later (h : B3 W t A c n u B e m r Ar cr w) (hb : Below w.heap.size w w') : B3 W t A c n u B e m r Ar cr w' :=
  ⟨h.bel.trans (hb.mono h.bel.size), h.bx.later hb, h.bu.later hb, h.br.later hb, h.tree.below hb, h.tree2.below hb, h.rin.below hb, h.tabs.below hb⟩
theorem B3.start (hT : TrAt (fun _ => True) W n A t) (hU : TrAt (fun _ => True) W m B u) (hR : RIn W r Ar cr) (hTb : Tabs W) :
    B3 W t A c n u B e m r Ar cr (((W.alloc (.cells (exC t A c) 24)).alloc (.cells (exC u B e) 24)).alloc (.cells (recC r Ar cr) 27)) := by
  have hb : Below W.heap.size W (((W.alloc (.cells (exC t A c) 24)).alloc (.cells (exC u B e) 24)).alloc (.cells (recC r Ar cr) 27)) := (((Below.refl _ _).alloc (Nat.le_refl _) _).alloc (by simp) _).alloc (by simp; omega) _
  refine ⟨hb, ((Box.new _ _ _).alloc _).alloc _, ?_, ?_, hT.below hb, hU.below hb, hR.below hb, hTb.below hb⟩
  · have h := (Box.new (W.alloc (.cells (exC t A c) 24)) 24 (exC u B e))
    rw [World.size_alloc] at h
    exact h.alloc _
  · have h := (Box.new ((W.alloc (.cells (exC t A c) 24)).alloc (.cells (exC u B e) 24)) 27 (recC r Ar cr))
    rw [World.size_alloc, World.size_alloc] at h
    exact h
theorem B3.cells (h : B3 W t A c n u B e m r Ar cr w) :
    (w.cell? ⟨W.heap.size, 0, none⟩ = some (.int .i64 t.op) ∧ w.cell? ⟨W.heap.size, 1, none⟩ = some (.string t.name) ∧ w.cell? ⟨W.heap.size, 2, none⟩ = some (.string t.value) ∧ w.cell? ⟨W.heap.size, 3, none⟩ = some (.slice A t.kids.length c)) ∧
    (w.cell? ⟨W.heap.size + 1, 0, none⟩ = some (.int .i64 u.op) ∧ w.cell? ⟨W.heap.size + 1, 1, none⟩ = some (.string u.name) ∧ w.cell? ⟨W.heap.size + 1, 2, none⟩ = some (.string u.value) ∧ w.cell? ⟨W.heap.size + 1, 3, none⟩ = some (.slice B u.kids.length e)) ∧
    w.cell? ⟨W.heap.size + 1 + 1, 0, none⟩ = some (.int .i64 r.place) ∧ w.cell? ⟨W.heap.size + 1 + 1, 1, none⟩ = some (.int .i64 r.time) ∧ w.cell? ⟨W.heap.size + 1 + 1, 2, none⟩ = some (.bool r.bare) ∧ w.cell? ⟨W.heap.size + 1 + 1, 3, none⟩ = some (.string r.key) ∧
    w.cell? ⟨W.heap.size + 1 + 1, 4, none⟩ = some (.bool r.gone) ∧ w.cell? ⟨W.heap.size + 1 + 1, 5, none⟩ = some (.string r.value) ∧ w.cell? ⟨W.heap.size + 1 + 1, 6, none⟩ = some (.slice Ar r.heads.length cr) :=
  ⟨⟨h.bx.cell 0, h.bx.cell 1, h.bx.cell 2, h.bx.cell 3⟩, ⟨h.bu.cell 0, h.bu.cell 1, h.bu.cell 2, h.bu.cell 3⟩, rec_cells h.br⟩
end
end Go.Proofs.YtmnmgbbdjpfonaaDoor
