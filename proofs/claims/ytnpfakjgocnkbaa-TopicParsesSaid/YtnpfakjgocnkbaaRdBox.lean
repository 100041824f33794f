/- A reader in memory: its three cells, and what a method leaves. Plain words. No condition. -/
import Derived.Test.YtnpfakjgocnkbaaRd
import Derived.Test.YtnpfakjgocnkbaaMem
import Derived.WalkKit
import Derived.ProofKit
namespace Go.Proofs.Ytnpfakjgocnkbaa
open Go.RowKit
set_option linter.unusedVariables false
/-- A reader's three cells. -/
def rdC (s : ByteArray) (q e : Int) : Array Value := #[.string s, .int .i64 q, .int .i64 e]
def Moved (W : World) (b : Nat) (t : TypeId) (v : Value) (s : ByteArray) (q e : Int) (en : Ending) (w' : World) : Prop := en = .returned v ∧ Box w' b t (rdC s q e) ∧ Off (· = b) W w'
theorem Box.rd0 {w : World} {b : Nat} {t : TypeId} {s : ByteArray} {q e : Int} (h : Box w b t (rdC s q e)) : w.cell? ⟨b, 0, none⟩ = some (.string s) ∧ w.cell? ⟨b, 1, none⟩ = some (.int .i64 q) ∧ w.cell? ⟨b, 2, none⟩ = some (.int .i64 e) ∧ w.frozen? ⟨b, 1, none⟩ = false ∧ w.frozen? ⟨b, 2, none⟩ = false :=
  ⟨by rw [h.cell]; rfl, by rw [h.cell]; rfl, by rw [h.cell]; rfl, h.frozen 1, h.frozen 2⟩
/-- An error of the form, if what was read is not right. -/
def dem (e : Int) (b : Bool) : Int := if e = 0 ∧ b = false then 3 else e
def Done (W : World) (b : Nat) (t : TypeId) (s : ByteArray) (q e : Int) (en : Ending) (w' : World) : Prop := en = .returned (.tuple #[]) ∧ Box w' b t (rdC s q e) ∧ Off (· = b) W w'
/-- The place and the error stored, in either order. -/
theorem rdC_set2 {w : World} {b : Nat} {t : TypeId} {s : ByteArray} {q e q' e' : Int} (h : Box w b t (rdC s q e)) : Box ((w.setCell ⟨b, 2, none⟩ (.int .i64 e')).setCell ⟨b, 1, none⟩ (.int .i64 q')) b t (rdC s q' e') := (h.set 2 _).set 1 _
end Go.Proofs.Ytnpfakjgocnkbaa
