/- A disk in memory: its block, its map, a block and a row of bytes for each file. Plain words. No condition. -/
import Derived.Test.YtpdimmkacjilgaaNum
import Derived.Test.YtpdimmkacjilgaaMem
import Derived.Maps.Own
import Derived.Maps.OwnSet
import Derived.StringKeys
import Derived.KernelRfl
import Derived.WalkKit
import Derived.ProofKit
namespace Go.Proofs.Ytpdimmkacjilgaa
open Go.RowKit Go.Maps Go.ChangeMaps Go.WideMaps
set_option linter.unusedVariables false
/-- A file: its name, its block, its slice, its bytes, how many of these are safe. -/
structure DF where
  name : List UInt8
  blk : Nat
  v : Value
  bytes : List UInt8
  safe : Nat
/-- A pointer to a file reads as its block's number. -/
def fileTok (v : Value) : Option (DataW Unit × List MemPlace) :=
  match v with
  | .pointer none => some (.lit (.int .i64 (-1)), [])
  | .pointer (some ⟨b, 0, none⟩) => some (.lit (.int .i64 (b : Int)), [])
  | _ => none
def entry (f : DF) : Lit × DataW Unit := (.string f.name, .lit (.int .i64 (f.blk : Int)))
def mapD (F : List DF) : DataW Unit := .map (F.map entry)
/-- What a disk is. -/
structure DS where
  room : Int
  used : Int
  map : Option Nat
  fused : Bool
  left : Int
  F : List DF
def dkC (d : DS) : Array Value := #[.int .i64 d.room, .int .i64 d.used, .map d.map, .bool d.fused, .int .i64 d.left]
/-- Bytes as cells. -/
def byteCells (l : List UInt8) : List Value := l.map fun b => Value.int .u8 (b.toNat : Int)
def total (F : List DF) : Nat := (F.map fun f => f.bytes.length).sum
structure FileIn (w : World) (f : DF) : Prop where
  box : Box w f.blk 69 #[f.v, .int .i64 (f.safe : Int)]
  row : w.ownsRow 0 5 1 f.v f.bytes.length (byteCells f.bytes)
  safe : f.safe ≤ f.bytes.length
  name : 1 ≤ f.name.length ∧ f.name.length ≤ 40
structure Rep (w : World) (p : Nat) (d : DS) : Prop where
  box : Box w p 59 (dkC d)
  map : (d.map = none ∧ d.F = []) ∨ ∃ m, d.map = some m ∧ w.ownsMap Try.prog 9 fileTok m d.F.length (mapD d.F)
  files : ∀ f ∈ d.F, FileIn w f
  blks : d.F.Pairwise fun f g => f.blk ≠ g.blk
  rows : d.F.Pairwise fun f g => ∀ k, f.v.ownBlock = some k → g.v.ownBlock ≠ some k
  sorted : d.F.Pairwise fun f g => bytesBefore f.name g.name = true
  room : 1 ≤ d.room ∧ d.room ≤ 4194304
  used : (total d.F : Int) ≤ d.used ∧ d.used ≤ d.room
  left : 0 ≤ d.left ∧ d.left ≤ 9223372036854775807
/-- The blocks of a disk. -/
def Foot (p : Nat) (d : DS) (k : Nat) : Prop := k = p ∨ d.map = some k ∨ ∃ f ∈ d.F, k = f.blk ∨ f.v.ownBlock = some k
section
variable {w w' : World} {p : Nat} {d : DS} {S : Nat → Prop}
theorem map_off {k : TypeId} {R : Value → Option (DataW Unit × List MemPlace)} {b n : Nat} {D : DataW Unit} (h : w.ownsMap Try.prog k R b n D) (ho : Off S w w') (hS : ¬ S b) : w'.ownsMap Try.prog k R b n D := by
  have hlt := h.lt
  obtain ⟨es, clock, hb, F, hs, hD⟩ := h
  exact ⟨es, clock, (ho.block b hlt hS).trans hb, F, hs, hD⟩
theorem FileIn.off {f : DF} (h : FileIn w f) (ho : Off S w w') (h1 : ¬ S f.blk) (h2 : ∀ k, f.v.ownBlock = some k → ¬ S k) : FileIn w' f :=
  ⟨h.box.off ho h1, own_off h.row ho h2, h.safe, h.name⟩
/-- A disk stays while others' blocks are written. -/
theorem Rep.off (h : Rep w p d) (ho : Off S w w') (hS : ∀ k, Foot p d k → ¬ S k) : Rep w' p d := by
  refine ⟨h.box.off ho (hS p (.inl rfl)), ?_, fun f hf => (h.files f hf).off ho (hS _ (.inr (.inr ⟨f, hf, .inl rfl⟩))) (fun k hk => hS k (.inr (.inr ⟨f, hf, .inr hk⟩))), h.blks, h.rows, h.sorted, h.room, h.used, h.left⟩
  rcases h.map with h1 | ⟨m, h1, h2⟩
  · exact .inl h1
  · exact .inr ⟨m, h1, map_off h2 ho (hS m (.inr (.inl h1)))⟩
theorem Rep.later (h : Rep w p d) (hb : Below w.heap.size w w') : Rep w' p d := h.off (Off.of_below (fun _ => False) hb) (fun _ _ x => x)
theorem Rep.at (h : Rep w p d) : w.cell? ⟨p, 0, none⟩ = some (.int .i64 d.room) ∧ w.cell? ⟨p, 1, none⟩ = some (.int .i64 d.used) ∧ w.cell? ⟨p, 2, none⟩ = some (.map d.map) ∧ w.cell? ⟨p, 3, none⟩ = some (.bool d.fused) ∧ w.cell? ⟨p, 4, none⟩ = some (.int .i64 d.left) :=
  ⟨(h.box.cell 0).trans rfl, (h.box.cell 1).trans rfl, (h.box.cell 2).trans rfl, (h.box.cell 3).trans rfl, (h.box.cell 4).trans rfl⟩
end
/-- The file of a name. -/
def fileOf (F : List DF) (n : List UInt8) : Option DF := F.find? fun f => f.name == n
theorem mapD_at (F : List DF) (n : List UInt8) (z : DataW Unit) : (mapD F).atKey (.string n) z = match fileOf F n with | some f => .lit (.int .i64 (f.blk : Int)) | none => z := by
  unfold mapD DataW.atKey fileOf
  simp only [List.find?_map]
  have e : ((fun p : Lit × DataW Unit => p.1.sameKey (.string n)) ∘ entry) = fun f : DF => f.name == n := by
    funext f
    rfl
  rw [e]
  cases F.find? fun f => f.name == n <;> rfl
theorem fileTok_inv {v : Value} {b : Nat} {ps : List MemPlace} (h : fileTok v = some (.lit (.int .i64 (b : Int)), ps)) : v = .pointer (some ⟨b, 0, none⟩) := by
  unfold fileTok at h
  split at h
  · simp at h
  · rename_i b'
    simp at h
    have : b' = b := by omega
    subst this
    rfl
  · cases h
theorem fileTok_nil {v : Value} {ps : List MemPlace} (h : fileTok v = some (.lit (.int .i64 (-1)), ps)) : v = .pointer none := by
  unfold fileTok at h
  split at h
  · rfl
  · simp at h
  · cases h
theorem zeroFile (w : World) : (zeroValue 64).run Try.prog w = .ok (.pointer none) w := by kernel_rfl
/-- The pointer that a lookup gives. -/
def ptrOf (F : List DF) (n : List UInt8) : Value := match fileOf F n with | some f => .pointer (some ⟨f.blk, 0, none⟩) | none => .pointer none
theorem look_run {w : World} {p : Nat} {d : DS} (h : Rep w p d) (n : ByteArray) (hn : n.size ≤ maxLen) : (Instr.lookup 57 (.map d.map) (.string n) false).run Try.prog w = .ok (ptrOf d.F n.data.toList) w := by
  rcases h.map with ⟨h1, h2⟩ | ⟨m, h1, h2⟩
  · rw [h1, h2]
    have := look_nil (w := w) false (string_keyed Try.underlying9) Try.underlying57 (zeroFile _) (keyOf_string_mk Try.underlying9 hn)
    rw [show ptrOf [] n.data.toList = .pointer none from rfl]
    simpa using this
  · rw [h1]
    obtain ⟨v, ps, hr, hv⟩ := h2.lookup (string_keyed Try.underlying9) Try.underlying57 (z := .pointer none) (zd := .lit (.int .i64 (-1))) (zp := []) (zeroFile _) rfl (keyOf_string_mk Try.underlying9 hn)
    rw [hr, mapD_at] at *
    unfold ptrOf
    cases hf : fileOf d.F n.data.toList with
    | none => rw [hf] at hv; rw [fileTok_nil hv]
    | some f => rw [hf] at hv; rw [fileTok_inv hv]
end Go.Proofs.Ytpdimmkacjilgaa
