/- topic: an argument that is a call, or a list of calls. No condition. -/
import Derived.Test.YtnpfakjgocnkbaaOpRows
import Derived.Test.YtnpfakjgocnkbaaTpRep
namespace Go.Proofs.Ytnpfakjgocnkbaa
open Go.RowKit Go.WideShapes Go.ChangeShapes Go.Deep
set_option linter.unusedVariables false
section
variable {H : Type} {enc : TypeId × Value → H} {w : World} {base : Nat} {sp : Nat → Bool} {held : Bool}
/-- A call: what to do, a name, a number. -/
structure OT where
  do_ : Int
  name : ByteArray
  parts : Int
instance : Inhabited OT := ⟨⟨0, ⟨#[]⟩, 0⟩⟩
/-- A call's cells. -/
def OtF (f : Nat → Option Value) (x : OT) : Prop := f 0 = some (.int .i64 x.do_) ∧ f 1 = some (.string x.name) ∧ f 2 = some (.int .i64 x.parts) ∧ x.name.size ≤ 140737488351232
def OtsIn (w : World) (A : Option Addr) (L : List OT) : Prop := 0 < L.length → ∃ b off, A = some ⟨b, off, none⟩ ∧ b < w.heap.size ∧ ∀ j x, L[j]? = some x → OtF (fun i => w.cell? ⟨b, off + j * 3 + i, none⟩) x
theorem OtsIn.at_ {w w' : World} {A : Option Addr} {L : List OT} (h : OtsIn w A L) (hb : Below w.heap.size w w') {k : Nat} {x : OT} (hk : L[k]? = some x) : ∃ b off, A = some ⟨b, off, none⟩ ∧ b < w'.heap.size ∧ w'.cell? ⟨b, off + k * 3, none⟩ = some (.int .i64 x.do_) ∧ w'.cell? ⟨b, off + k * 3 + 1, none⟩ = some (.string x.name) ∧ w'.cell? ⟨b, off + k * 3 + 2, none⟩ = some (.int .i64 x.parts) ∧ x.name.size ≤ 140737488351232 := by
  obtain ⟨b, off, hA, hl, hc⟩ := h (by have := (List.getElem?_eq_some_iff.1 hk).1; omega)
  obtain ⟨h0, h1, h2, h3⟩ := hc k x hk
  have go : ∀ (o : Nat) (v : Value), w.cell? ⟨b, o, none⟩ = some v → w'.cell? ⟨b, o, none⟩ = some v := fun o v h => (hb.cell (p := ⟨b, o, none⟩) hl).trans h
  exact ⟨b, off, hA, Nat.lt_of_lt_of_le hl hb.size, go _ _ h0, go _ _ h1, go _ _ h2, h3⟩
theorem ot_of {n : Nat} {x0 x1 x2 : Value} {y0 y1 y2 : DataW H × List MemPlace} (t0 : DataW.trod enc Try.prog w base sp held n 3 [x0] = some y0) (t1 : DataW.trod enc Try.prog w base sp held n 9 [x1] = some y1) (t2 : DataW.trod enc Try.prog w base sp held n 3 [x2] = some y2) (hw : Weighs Try.prog 9 y1.1) :
    ∃ x : OT, x0 = .int .i64 x.do_ ∧ x1 = .string x.name ∧ x2 = .int .i64 x.parts ∧ x.name.size ≤ 140737488351232 := by
  obtain ⟨n0, e0, _, _⟩ := DataW.trod_int Try.underlying3 t0
  obtain ⟨s, e1, e1', _⟩ := DataW.trod_string Try.underlying9 t1
  obtain ⟨n2, e2, _, _⟩ := DataW.trod_int Try.underlying3 t2
  rw [e1'] at hw
  exact ⟨⟨n0, s, n2⟩, by simpa using e0, by simpa using e1, by simpa using e2, weighs_str hw⟩
set_option maxRecDepth 100000 in
theorem open_ops {r : Reach} {b0 : Nat} {v : Value} {d : DataW H} {p : List MemPlace} (hv : Value.okWide Try.prog w r b0 22 v) (hh : DataW.Trod enc Try.prog w base sp held 22 v d p) (hw : Weighs Try.prog 22 d) :
    ∃ (A : Option Addr) (c : Nat) (L : List OT), v = .slice A L.length c ∧ OtsIn w A L :=
  open_rows Try.underlying22 Try.underlying30 (by kernel_rfl) (by kernel_rfl) (by decide) OtF (fun n cs' d p hl ht hwe => by
    obtain ⟨n3, get⟩ := open_cells Try.underlying30 (by kernel_rfl) hl ht hwe
    obtain ⟨x0, z0, q0, s0, _⟩ := get 0 _ rfl
    obtain ⟨x1, z1, q1, s1, w1⟩ := get 1 _ rfl
    obtain ⟨x2, z2, q2, s2, _⟩ := get 2 _ rfl
    obtain ⟨x, rfl, rfl, rfl, hx⟩ := ot_of s0 s1 s2 w1
    exact ⟨x, fun f hf => ⟨(hf 0 (by decide)).trans q0, (hf 1 (by decide)).trans q1, (hf 2 (by decide)).trans q2, hx⟩⟩) hv hh hw
set_option maxRecDepth 100000 in
theorem open_op {r : Reach} {b0 : Nat} {v : Value} {d : DataW H} {p : List MemPlace} (hv : Value.okWide Try.prog w r b0 30 v) (h : DataW.Trod enc Try.prog w base sp held 30 v d p) (hw : Weighs Try.prog 30 d) :
    ∃ x : OT, v = .agg #[.int .i64 x.do_, .string x.name, .int .i64 x.parts] ∧ x.name.size ≤ 140737488351232 := by
  obtain ⟨cs, ys, n, rfl, hsz, rfl, hyl, hf⟩ := open_fields Try.underlying30 (by kernel_rfl) (by kernel_rfl) hv h
  obtain ⟨x0, y0, q0, u0, t0⟩ := hf 0 _ rfl
  obtain ⟨x1, y1, q1, u1, t1⟩ := hf 1 _ rfl
  obtain ⟨x2, y2, q2, u2, t2⟩ := hf 2 _ rfl
  have w1 := weighs_field Try.underlying30 hw (j := 1) rfl (d := y1.1) (by simp [u1])
  obtain ⟨x, rfl, rfl, rfl, hx⟩ := ot_of t0 t1 t2 w1
  refine ⟨x, ?_, hx⟩
  have hs3 : cs.size = 3 := hsz
  congr 1
  apply Array.ext (by rw [hs3]; rfl)
  intro i hi1 hi2
  match i, hi1, hi2 with
  | 0, h, _ => exact Option.some.inj ((Array.getElem?_eq_getElem h).symm.trans q0)
  | 1, h, _ => exact Option.some.inj ((Array.getElem?_eq_getElem h).symm.trans q1)
  | 2, h, _ => exact Option.some.inj ((Array.getElem?_eq_getElem h).symm.trans q2)
  | k + 3, h, _ => omega
end
end Go.Proofs.Ytnpfakjgocnkbaa
