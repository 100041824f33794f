/- offsets: when two parts, two keys are one: how the program tells. No condition. -/
import Derived.Test.YtlkhfgkgngcakaaOfXa
import Derived.Laws.StructEq
import Derived.Shelf.SlicesE.Kit
namespace Go.Proofs.Ytlkhfgkgngcakaa
open Go.RowKit
set_option linter.unusedVariables false
set_option maxRecDepth 100000 in
theorem eqin_part (d : Nat) (a b : ByteArray) (i j : Int) (w : World) : (Op.equalIn (d + 2) 36 (.agg #[.string a, .int .i64 i]) (.agg #[.string b, .int .i64 j])).run Try.prog w = .ok (a.toList == b.toList && i == j) w := by
  have u3 := Try.underlying3
  have u9 := Try.underlying9
  have a3 := Try.isAgg3
  have z3 := Try.sizeOf3
  have a9 := Try.isAgg9
  have z9 := Try.sizeOf9
  have hS : Try.prog.underlying 36 = some (.struct (Try.prog.fieldsOf 36)) := by kernel_rfl
  have hp : Try.prog.stoodInHeld 36 = false := by kernel_rfl
  rw [show d + 2 = (d + 1) + 1 from rfl, run_equalIn_agg w (d + 1) 36 _ _ hS hp]
  simp only [Program.fieldsOf, Try.underlying36]
  go_simp
  by_cases h1 : a.toList = b.toList <;> by_cases h2 : i = j <;> simp [h1, h2]
set_option maxRecDepth 100000 in
theorem eqin_key (d : Nat) (x y : KY) (w : World) : (Op.equalIn (d + 3) 45 (.agg #[.string x.g, .string x.t, .int .i64 x.i]) (.agg #[.string y.g, .string y.t, .int .i64 y.i])).run Try.prog w = .ok (x.g.toList == y.g.toList && (x.t.toList == y.t.toList && x.i == y.i)) w := by
  have u9 := Try.underlying9
  have a9 := Try.isAgg9
  have z9 := Try.sizeOf9
  have a36 := Try.isAgg36
  have z36 := Try.sizeOf36
  have hq := fun w => eqin_part d x.t y.t x.i y.i w
  have hS : Try.prog.underlying 45 = some (.struct (Try.prog.fieldsOf 45)) := by kernel_rfl
  have hp : Try.prog.stoodInHeld 45 = false := by kernel_rfl
  rw [show d + 3 = (d + 2) + 1 from rfl, run_equalIn_agg w (d + 2) 45 _ _ hS hp]
  simp only [Program.fieldsOf, Try.underlying45]
  go_simp
  by_cases h1 : x.g.toList = y.g.toList <;> by_cases h2 : x.t.toList = y.t.toList <;> by_cases h3 : x.i = y.i <;> simp [h1, h2, h3]
theorem part_eql (a b : ByteArray) (i j : Int) (w : World) : (binOp .eql 36 (.agg #[.string a, .int .i64 i]) (.agg #[.string b, .int .i64 j])).run Try.prog w = .ok (.bool (a.toList == b.toList && i == j)) w := by
  rw [run_eql_struct, show (10000 : Nat) = 9998 + 2 from rfl, eqin_part]; rfl
theorem part_neq (a b : ByteArray) (i j : Int) (w : World) : (binOp .neq 36 (.agg #[.string a, .int .i64 i]) (.agg #[.string b, .int .i64 j])).run Try.prog w = .ok (.bool (!(a.toList == b.toList && i == j))) w := by
  rw [run_neq_struct, show (10000 : Nat) = 9998 + 2 from rfl, eqin_part]; rfl
theorem key_neq (x y : KY) (w : World) : (binOp .neq 45 (.agg #[.string x.g, .string x.t, .int .i64 x.i]) (.agg #[.string y.g, .string y.t, .int .i64 y.i])).run Try.prog w = .ok (.bool (!(x.g.toList == y.g.toList && (x.t.toList == y.t.toList && x.i == y.i)))) w := by
  rw [run_neq_struct, show (10000 : Nat) = 9997 + 3 from rfl, eqin_key]; rfl
theorem part_guard (op : BinOp) (a b : Operand) (xs ys : Array Value) (w : World) : (eqGuard op 36 a b (.agg xs) (.agg ys)).run Try.prog w = .ok () w := run_eqGuard_agg w op 36 a b xs ys (by kernel_rfl)
theorem key_guard (op : BinOp) (a b : Operand) (xs ys : Array Value) (w : World) : (eqGuard op 45 a b (.agg xs) (.agg ys)).run Try.prog w = .ok () w := run_eqGuard_agg w op 45 a b xs ys (by kernel_rfl)
end Go.Proofs.Ytlkhfgkgngcakaa
