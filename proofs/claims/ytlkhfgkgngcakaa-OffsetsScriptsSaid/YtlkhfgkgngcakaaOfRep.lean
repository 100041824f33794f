/- offsets: a key as a map's key. Plain words. No condition. -/
import Derived.Test.YtlkhfgkgngcakaaNum
import Derived.Test.YtlkhfgkgngcakaaMem
import Derived.Maps.Own
import Derived.Maps.OwnSet
import Derived.DeepKeys4
import Derived.KernelRfl
import Derived.WalkKit
import Derived.ProofKit
import Derived.BigQuiet
import Derived.Deep.QuietTactic
import Derived.Lib.Hide
namespace Go.Proofs.Ytlkhfgkgngcakaa
open Go.RowKit Go.Maps Go.ChangeMaps Go.WideMaps
set_option linter.unusedVariables false
/-- A key: its group, its topic, which partition. -/
structure KY where
  g : ByteArray
  t : ByteArray
  i : Int
def kyV (k : KY) : Value := .agg #[.string k.g, .string k.t, .int .i64 k.i]
/-- A key as the map's data has it. -/
def kyB (k : KY) : List UInt8 := keyBytes [.string k.g.data.toList, .string k.t.data.toList, .int .i64 k.i]
structure KyOk (k : KY) : Prop where
  g : k.g.size ≤ maxLen
  t : k.t.size ≤ maxLen
  i : (Lit.int .i64 k.i).wf = true
theorem kyLaid : laidOutB Try.prog = true := by kernel_rfl
theorem kyRow : (45 : TypeId) < Try.prog.types.size := of_decide_eq_true (by kernel_rfl)
theorem kyWide : (match Try.prog.underlying 45 with | some (.array _ _) | some (.struct _) => true | _ => false) = true := by kernel_rfl
theorem kyDeep : Try.prog.keyTypeAt 3 45 = true := by kernel_rfl
set_option maxRecDepth 100000 in
theorem kyLaw : KeyLaw Try.prog 45 := deep_law_laid kyLaid (m := 3) (by omega) kyRow kyDeep kyWide
theorem kyKeyed : Keyed Try.prog 45 := Keyed.of_law kyLaw
theorem kyType : Try.prog.keyType 45 = true := by kernel_rfl
theorem kyCells : Try.prog.cellsOf 45 = 3 := by kernel_rfl
theorem kyFormed (k : KY) : (kyV k).formed Try.prog 45 = true := by
  unfold kyV Value.formed
  have h : ∃ fs, Try.prog.underlying 45 = some (.struct fs) := ⟨_, Try.underlying45⟩
  obtain ⟨fs, hu⟩ := h
  simp [hu, kyCells]
theorem kyLits (k : KY) (h : KyOk k) : Try.prog.keyLits (Try.prog.types.size + 1) 45 (kyV k).cells.toList = some [.string k.g.data.toList, .string k.t.data.toList, .int .i64 k.i] := by
  obtain ⟨n, hn⟩ : ∃ n, Try.prog.types.size = n + 2 := ⟨Try.prog.types.size - 2, by kernel_rfl⟩
  rw [hn]
  have c1 : Try.prog.cellsOf 9 = 1 := by kernel_rfl
  have c2 : Try.prog.cellsOf 36 = 2 := by kernel_rfl
  have c3 : Try.prog.cellsOf 3 = 1 := by kernel_rfl
  show Try.prog.keyLits (n + 3) _ [.string k.g, .string k.t, .int .i64 k.i] = _
  simp [Program.keyLits, Try.underlying45, Try.underlying36, Try.underlying9, Try.underlying3, c1, c2, c3, kyCells, h.g, h.t, h.i]
  rw [if_pos (by
    intro i hi
    match i, hi with
    | 0, _ => simp
    | 1, _ => simp)]
  rfl
theorem kyKey (k : KY) (h : KyOk k) : keyOf Try.prog 45 (kyV k) = some (.string (kyB k)) := by
  unfold keyOf
  rw [Try.underlying45]
  simp only [kyType, kyFormed, Bool.and_self, if_true, kyLits k h, Option.map_some]
  rfl
end Go.Proofs.Ytlkhfgkgngcakaa
