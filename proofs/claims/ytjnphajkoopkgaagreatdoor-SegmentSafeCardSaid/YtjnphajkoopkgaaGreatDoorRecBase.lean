/- Records in memory: a list of headers as a slice of structs, a record as a value. Plain words. No condition. -/
import Derived.Test.YtjnphajkoopkgaaGreatDoorRecMath
import Derived.Test.YtjnphajkoopkgaaGreatDoorProg
import Derived.WalkKit
import Derived.ProofKit
import Derived.LoopTactic
import Derived.Lib.Hide
import Derived.WalkMore
import Derived.WalkLawsBesides
import Derived.Laws.AppendOwn
namespace Go.Proofs.YtjnphajkoopkgaaGreatDoor
open Go.RowKit
set_option linter.unusedVariables false
/-- A list of headers in memory. -/
def HIn (w : World) (A : Option Addr) (hs : List Hd) : Prop :=
  0 < hs.length → ∃ b off, A = some ⟨b, off, none⟩ ∧ b < w.heap.size ∧ ∀ j h, hs[j]? = some h → w.cell? ⟨b, off + j * 2, none⟩ = some (.string h.1) ∧ w.cell? ⟨b, off + j * 2 + 1, none⟩ = some (.string h.2)
theorem HIn.nil (w : World) (A : Option Addr) : HIn w A [] := fun h => absurd h (by simp)
theorem HIn.below {w w' : World} {A : Option Addr} {hs : List Hd} (h : HIn w A hs) (hb : Below w.heap.size w w') : HIn w' A hs := fun hp => by
  obtain ⟨b, off, e, hlt, hc⟩ := h hp
  exact ⟨b, off, e, Nat.lt_of_lt_of_le hlt hb.size, fun j x hx => ⟨(hb.cell (p := ⟨b, off + j * 2, none⟩) hlt).trans (hc j x hx).1, (hb.cell (p := ⟨b, off + j * 2 + 1, none⟩) hlt).trans (hc j x hx).2⟩⟩
theorem HIn.at_ {w : World} {A : Option Addr} {hs : List Hd} (h : HIn w A hs) {k : Nat} (hk : k < hs.length) :
    ∃ b off, A = some ⟨b, off, none⟩ ∧ b < w.heap.size ∧ w.cell? ⟨b, off + k * 2, none⟩ = some (.string hs[k].1) ∧ w.cell? ⟨b, off + k * 2 + 1, none⟩ = some (.string hs[k].2) := by
  obtain ⟨b, off, e, hlt, hc⟩ := h (by omega)
  obtain ⟨h1, h2⟩ := hc k _ (List.getElem?_eq_getElem hk)
  exact ⟨b, off, e, hlt, h1, h2⟩
/-- A record's cells; the record as a value. -/
def recC (r : Rec) (A : Option Addr) (c : Nat) : Array Value := #[.int .i64 r.place, .int .i64 r.time, .bool r.bare, .string r.key, .bool r.gone, .string r.value, .slice A r.heads.length c]
def recV (r : Rec) (A : Option Addr) (c : Nat) : Value := .agg (recC r A c)
theorem str_nil {s : ByteArray} (h : s.size = 0) : s.toList = [] := by
  rw [show s = ⟨#[]⟩ from ByteArray.ext (Array.eq_empty_of_size_eq_zero h), ByteArray.toList_eq]
theorem list_ne {s : ByteArray} (h : s.size ≠ 0) : s.toList.isEmpty = false := by
  rw [ByteArray.toList_eq]
  cases hl : s.data.toList with
  | nil =>
    exfalso
    apply h
    have : s.data.toList.length = 0 := by rw [hl]; rfl
    exact this
  | cons a l => rfl
theorem list_nn {s : ByteArray} (h : s.size ≠ 0) : ¬ s.toList = [] := fun e => by
  have := list_ne h
  rw [e] at this
  cases this
/-- What a record holds, and what it is in memory. -/
structure RIn (w : World) (r : Rec) (A : Option Addr) (c : Nat) : Prop where
  heads : HIn w A r.heads
  len : r.heads.length ≤ 140737488351232
  key : r.key.size ≤ 1152921504606846976
  value : r.value.size ≤ 1152921504606846976
  each : ∀ h ∈ r.heads, h.1.size ≤ 1152921504606846976 ∧ h.2.size ≤ 1152921504606846976
theorem RIn.below {w w' : World} {r : Rec} {A : Option Addr} {c : Nat} (h : RIn w r A c) (hb : Below w.heap.size w w') : RIn w' r A c := ⟨h.heads.below hb, h.len, h.key, h.value, h.each⟩
end Go.Proofs.YtjnphajkoopkgaaGreatDoor
