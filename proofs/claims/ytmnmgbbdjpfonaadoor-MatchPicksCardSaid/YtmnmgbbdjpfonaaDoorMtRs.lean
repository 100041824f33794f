/- Records in memory, row by row. No condition. -/
import Derived.Test.YtmnmgbbdjpfonaaDoorRecBase
namespace Go.Proofs.YtmnmgbbdjpfonaaDoor
open Go.RowKit
set_option linter.unusedVariables false
/-- A record and where its headers lie. -/
abbrev RX := Rec × Option Addr × Nat
/-- A record's seven cells. -/
def RxAt (w : World) (b o : Nat) (x : RX) : Prop :=
  w.cell? ⟨b, o, none⟩ = some (.int .i64 x.1.place) ∧ w.cell? ⟨b, o + 1, none⟩ = some (.int .i64 x.1.time) ∧ w.cell? ⟨b, o + 2, none⟩ = some (.bool x.1.bare) ∧ w.cell? ⟨b, o + 3, none⟩ = some (.string x.1.key) ∧
    w.cell? ⟨b, o + 4, none⟩ = some (.bool x.1.gone) ∧ w.cell? ⟨b, o + 5, none⟩ = some (.string x.1.value) ∧ w.cell? ⟨b, o + 6, none⟩ = some (.slice x.2.1 x.1.heads.length x.2.2)
/-- A list of records in memory. -/
def RsIn (w : World) (A : Option Addr) (L : List RX) : Prop :=
  0 < L.length → ∃ b off, A = some ⟨b, off, none⟩ ∧ b < w.heap.size ∧ ∀ j x, L[j]? = some x → RxAt w b (off + j * 7) x ∧ RIn w x.1 x.2.1 x.2.2
theorem RxAt.below {w w' : World} {b o : Nat} {x : RX} (h : RxAt w b o x) (hl : b < w.heap.size) (hb : Below w.heap.size w w') : RxAt w' b o x := by
  obtain ⟨h0, h1, h2, h3, h4, h5, h6⟩ := h
  have c := fun i => hb.cell (p := ⟨b, i, none⟩) hl
  exact ⟨(c _).trans h0, (c _).trans h1, (c _).trans h2, (c _).trans h3, (c _).trans h4, (c _).trans h5, (c _).trans h6⟩
theorem RsIn.below {w w' : World} {A : Option Addr} {L : List RX} (h : RsIn w A L) (hb : Below w.heap.size w w') : RsIn w' A L := fun hp => by
  obtain ⟨b, off, e, hlt, hc⟩ := h hp
  exact ⟨b, off, e, Nat.lt_of_lt_of_le hlt hb.size, fun j x hx => ⟨(hc j x hx).1.below hlt hb, (hc j x hx).2.below hb⟩⟩
end Go.Proofs.YtmnmgbbdjpfonaaDoor
