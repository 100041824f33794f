/- What an argument that is a record reads as. No condition. -/
import Derived.Test.YtmnmgbbdjpfonaaDoorOpen
import Derived.Test.YtmnmgbbdjpfonaaDoorProg
import Derived.KernelRfl
namespace Go.Proofs.YtmnmgbbdjpfonaaDoor
open Go.RowKit Go.WideShapes Go.ChangeShapes Go.Deep
set_option linter.unusedVariables false
section
variable {H : Type} {enc : TypeId × Value → H} {w : World} {base : Nat} {sp : Nat → Bool} {held : Bool}
theorem arr7 {cs : Array Value} {x0 x1 x2 x3 x4 x5 x6 : Value} (hs : cs.size = 7) (q0 : cs[0]? = some x0) (q1 : cs[1]? = some x1) (q2 : cs[2]? = some x2) (q3 : cs[3]? = some x3) (q4 : cs[4]? = some x4) (q5 : cs[5]? = some x5) (q6 : cs[6]? = some x6) :
    cs = #[x0, x1, x2, x3, x4, x5, x6] := by
  obtain ⟨l⟩ := cs
  match l, hs with
  | [a, b, c, d, e, f, g], _ =>
    simp at q0 q1 q2 q3 q4 q5 q6
    subst q0 q1 q2 q3 q4 q5 q6
    rfl
/-- All texts of a record are of a size that may be read. -/
structure RSmall (r : Rec) : Prop where
  key : r.key.size ≤ 140737488351232
  value : r.value.size ≤ 140737488351232
  each : ∀ z ∈ r.heads, z.1.size ≤ 140737488351232 ∧ z.2.size ≤ 140737488351232
set_option maxRecDepth 100000 in
theorem open_rec {r : Reach} {b0 : Nat} {v : Value} {d : DataW H} {p : List MemPlace} (hv : Value.okWide Tryd.prog w r b0 27 v) (h : DataW.Trod enc Tryd.prog w base sp held 27 v d p) (hw : Weighs Tryd.prog 27 d) :
    ∃ r A c, v = recV r A c ∧ RIn w r A c ∧ RSmall r := by
  obtain ⟨cs, ys, n, rfl, hsz, rfl, hyl, hf⟩ := open_fields Tryd.underlying27 (by kernel_rfl) (by kernel_rfl) hv h
  have wf := fun (j : Nat) (f : Field) hf (y : DataW H × List MemPlace) (hy : ys[j]? = some y) => weighs_field Tryd.underlying27 hw (j := j) (f := f) hf (d := y.1) (by simp [hy])
  obtain ⟨x0, y0, q0, u0, t0⟩ := hf 0 _ rfl
  obtain ⟨x1, y1, q1, u1, t1⟩ := hf 1 _ rfl
  obtain ⟨x2, y2, q2, u2, t2⟩ := hf 2 _ rfl
  obtain ⟨x3, y3, q3, u3, t3⟩ := hf 3 _ rfl
  obtain ⟨x4, y4, q4, u4, t4⟩ := hf 4 _ rfl
  obtain ⟨x5, y5, q5, u5, t5⟩ := hf 5 _ rfl
  obtain ⟨x6, y6, q6, u6, t6⟩ := hf 6 _ rfl
  have w3 := wf 3 _ rfl _ u3
  have w5 := wf 5 _ rfl _ u5
  have w6 := wf 6 _ rfl _ u6
  obtain ⟨n0, e0, _, _⟩ := DataW.trod_int Tryd.underlying3 t0
  obtain ⟨n1, e1, _, _⟩ := DataW.trod_int Tryd.underlying3 t1
  obtain ⟨n2, e2, _⟩ := DataW.trod_bool Tryd.underlying4 t2
  obtain ⟨n3, e3, z3, _⟩ := DataW.trod_string Tryd.underlying9 t3
  obtain ⟨n4, e4, _⟩ := DataW.trod_bool Tryd.underlying4 t4
  obtain ⟨n5, e5, z5, _⟩ := DataW.trod_string Tryd.underlying9 t5
  obtain ⟨A, c, hs, e6, hin, hl, hz⟩ := open_two Tryd.underlying25 Tryd.underlying42 (by kernel_rfl) (by kernel_rfl) (by decide +kernel) Tryd.underlying9 Tryd.underlying9 t6 w6
  rw [z3] at w3
  rw [z5] at w5
  have s3 := weighs_str w3
  have s5 := weighs_str w5
  obtain rfl : x0 = .int .i64 n0 := by simpa using e0
  obtain rfl : x1 = .int .i64 n1 := by simpa using e1
  obtain rfl : x2 = .bool n2 := by simpa using e2
  obtain rfl : x3 = .string n3 := by simpa using e3
  obtain rfl : x4 = .bool n4 := by simpa using e4
  obtain rfl : x5 = .string n5 := by simpa using e5
  subst e6
  refine ⟨⟨n0, n1, n2, n3, n4, n5, hs⟩, A, c, ?_, ⟨hin, hl, by simp only; omega, by simp only; omega, fun z hz' => by have := hz z hz'; omega⟩, ⟨s3, s5, hz⟩⟩
  unfold recV recC
  congr 1
  exact arr7 hsz q0 q1 q2 q3 q4 q5 q6
end
end Go.Proofs.YtmnmgbbdjpfonaaDoor
