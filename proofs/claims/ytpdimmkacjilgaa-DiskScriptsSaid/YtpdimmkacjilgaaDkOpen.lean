/- What an argument that is a call's or a pair's record reads as. No condition. -/
import Derived.Test.YtpdimmkacjilgaaDkAt
import Derived.Test.YtpdimmkacjilgaaKit2
import Derived.OpenShut
import Derived.ProofKit
import Derived.SizedLaws
import Derived.Deep.Slices
import Derived.Deep.Fields
import Derived.KernelRfl
namespace Go.Proofs.Ytpdimmkacjilgaa
open Go.RowKit Go.WideShapes Go.ChangeShapes Go.Deep Go.WideMaps Go.WideElems
set_option linter.unusedVariables false
section
variable {H : Type} {enc : TypeId × Value → H} {P : Program} {w : World} {base : Nat} {sp : Nat → Bool} {held : Bool}
/-- None of a datum's parts is greater than what may be read. -/
def Weighs (P : Program) (t : TypeId) (d : DataW H) : Prop := ∀ n ∈ d.weights P t, n ≤ reachBytes
theorem reach_47 : reachBytes = 140737488351232 := by decide
theorem weighs_param {ts : List TypeId} {ds : List (DataW H)} (h : (DataW.weightsEach P ts ds).all (· ≤ reachBytes) = true) {j : Nat} {t : TypeId} {d : DataW H} (ht : ts[j]? = some t) (hd : ds[j]? = some d) : Weighs P t d := fun n hn => by
  have := List.all_eq_true.1 h _ (DataW.weights_mem_each ht hd n hn)
  simpa using this
theorem weighs_field {t : TypeId} {fs : Array Field} {parts : List (DataW H)} (hs : P.underlying t = some (.struct fs)) (h : Weighs P t (.agg parts)) {j : Nat} {f : Field} {d : DataW H} (hf : fs[j]? = some f) (hd : parts[j]? = some d) : Weighs P f.type d := fun n hn => by
  refine h n ?_
  simp only [DataW.weights, hs]
  refine DataW.weights_mem_each (j := j) ?_ hd n hn
  simp [hf]
theorem weighs_str {t : TypeId} {s : ByteArray} (h : Weighs P t (.lit (.string s.data.toList) : DataW H)) : s.size ≤ 140737488351232 := by
  have := h s.size (by simp [DataW.weights])
  rwa [reach_47] at this
/-- A struct of one-cell fields, each read by itself. -/
theorem open_fields {r : Reach} {b0 : Nat} {t : TypeId} {fs : Array Field} {v : Value} {d : DataW H} {p : List MemPlace} (hs : P.underlying t = some (.struct fs)) (hone : oneCellFields P fs = true) (hC : P.cellsOf t = fs.size)
    (hv : Value.okWide P w r b0 t v) (h : DataW.Trod enc P w base sp held t v d p) :
    ∃ (cs : Array Value) (ys : List (DataW H × List MemPlace)) (n : Nat), v = .agg cs ∧ cs.size = fs.size ∧ d = .agg (ys.map (·.1)) ∧ ys.length = fs.size ∧
      ∀ (j : Nat) (f : Field), fs[j]? = some f → ∃ (x : Value) (y : DataW H × List MemPlace), cs[j]? = some x ∧ ys[j]? = some y ∧ DataW.trod enc P w base sp held n f.type [x] = some y := by
  obtain ⟨cs, rfl, hsz⟩ := okWide_struct hs hv
  obtain ⟨fuel, hf⟩ := h
  obtain ⟨xs, n, _, hx, hl, hlen, hg⟩ := DataW.trod_struct hs hf
  simp only [Prod.mk.injEq] at hx
  refine ⟨cs, xs, n, rfl, hsz.trans hC, hx.1, hlen, fun j f hj => ?_⟩
  obtain ⟨ho, hk⟩ := hone_of hone j f hj
  have hjl : j < fs.size := (Array.getElem?_eq_some_iff.1 hj).1
  have hcl : j < cs.size := by rw [hsz, hC]; exact hjl
  have h1 := hg j f hj
  rw [ho, hk] at h1
  have e1 : ((Value.agg cs).cells.toList.drop j).take 1 = [cs[j]] := by
    show (cs.toList.drop j).take 1 = _
    rw [List.drop_eq_getElem_cons (by simpa using hcl)]
    simp
  rw [e1] at h1
  have hjx : j < xs.length := by rw [hlen]; exact hjl
  exact ⟨cs[j], xs[j], by simp [hcl], List.getElem?_eq_getElem hjx, h1.trans (List.getElem?_eq_getElem hjx)⟩
/-- A slice of integers in a field. -/
theorem intRow_in {t e : TypeId} {k : IntKind} {n : Nat} {x : Value} {y : DataW H × List MemPlace} (ht : P.underlying t = some (.slice e)) (he : P.underlying e = some (.int k)) (hc : P.cellsOf e = 1)
    (h : DataW.trod enc P w base sp held n t [x] = some y) : ∃ a c z, x = .slice a (z : List Int).length c ∧ IntRow k w a z.length c z := by
  rcases open_ints ht he hc h with ⟨hcs, _⟩ | ⟨a, l, c, zs, hcs, _, hl, hm, hz, _, hcell, hwz⟩
  · exact ⟨none, 0, [], by simpa using hcs, rfl, Nat.le_refl _, Nat.zero_le _, fun n hn => by simp at hn, fun hp => by simp at hp⟩
  · have hx : x = .slice (some a) l c := by simpa using hcs
    have hlz : l ≤ zs.length := by rw [hz]; split <;> omega
    have hzl : (zs.take l).length = l := by rw [List.length_take]; omega
    refine ⟨some a, c, zs.take l, by rw [hzl]; exact hx, rfl, by omega, hm, fun n hn => hwz n (List.mem_of_mem_take hn), fun hp => ?_⟩
    rw [hzl] at hp
    obtain ⟨b, off, rfl, hat⟩ := ints_at hcell (by omega)
    refine ⟨b, off, rfl, cell_block (hat 0 (by omega)), fun j hj => ?_⟩
    rw [hzl] at hj
    rw [hat j (by omega)]
    simp [List.getD, hj]
theorem wf_range {n : Int} (h : (Lit.int .i64 n).wf = true) : -9223372036854775808 ≤ n ∧ n ≤ 9223372036854775807 := by
  have h2 : IntKind.i64.min ≤ n ∧ n ≤ IntKind.i64.max := by simpa [Lit.wf] using h
  exact ⟨h2.1, h2.2⟩
theorem keep_of {a : Option Addr} {c : Nat} {z : List Int} (h : IntRow .i64 w a z.length c z) : KeepIn w (fun k => w.heap.size ≤ k) a c z ∧ z.length ≤ 9223372036854775807 := by
  obtain ⟨_, h2, h3, h4, h5⟩ := h
  refine ⟨⟨fun n hn => wf_range (h4 n hn), fun hp => ?_⟩, by unfold maxLen at h3; omega⟩
  obtain ⟨b, off, q1, q2, q3⟩ := h5 hp
  exact ⟨b, off, q1, q2, by omega, q3⟩
/-- A call of a script. -/
structure OpR where
  do_ : Int
  name : ByteArray
  text : ByteArray
  n : Int
  at_ : Option Addr
  c : Nat
  keep : List Int
def opV (o : OpR) : Value := .agg #[.int .i64 o.do_, .string o.name, .string o.text, .int .i64 o.n, .slice o.at_ o.keep.length o.c]
structure OpIn (w : World) (o : OpR) : Prop where
  name : o.name.size ≤ 140737488351232
  text : o.text.size ≤ 140737488351232
  n : -9223372036854775808 ≤ o.n ∧ o.n ≤ 9223372036854775807
  keep : KeepIn w (fun k => w.heap.size ≤ k) o.at_ o.c o.keep
  len : o.keep.length ≤ 9223372036854775807
theorem arr5 {cs : Array Value} {x0 x1 x2 x3 x4 : Value} (hs : cs.size = 5) (q0 : cs[0]? = some x0) (q1 : cs[1]? = some x1) (q2 : cs[2]? = some x2) (q3 : cs[3]? = some x3) (q4 : cs[4]? = some x4) : cs = #[x0, x1, x2, x3, x4] := by
  obtain ⟨l⟩ := cs
  match l, hs with
  | [a, b, c, d, e], _ =>
    simp at q0 q1 q2 q3 q4
    subst q0 q1 q2 q3 q4
    rfl
theorem arr4 {cs : Array Value} {x0 x1 x2 x3 : Value} (hs : cs.size = 4) (q0 : cs[0]? = some x0) (q1 : cs[1]? = some x1) (q2 : cs[2]? = some x2) (q3 : cs[3]? = some x3) : cs = #[x0, x1, x2, x3] := by
  obtain ⟨l⟩ := cs
  match l, hs with
  | [a, b, c, d], _ =>
    simp at q0 q1 q2 q3
    subst q0 q1 q2 q3
    rfl
end
section
variable {H : Type} {enc : TypeId × Value → H} {w : World} {base : Nat} {sp : Nat → Bool} {held : Bool}
set_option maxRecDepth 100000 in
theorem open_op {r : Reach} {b0 : Nat} {v : Value} {d : DataW H} {p : List MemPlace} (hv : Value.okWide Try.prog w r b0 34 v) (h : DataW.Trod enc Try.prog w base sp held 34 v d p) (hw : Weighs Try.prog 34 d) :
    ∃ o : OpR, v = opV o ∧ OpIn w o := by
  obtain ⟨cs, ys, n, rfl, hsz, rfl, hyl, hf⟩ := open_fields Try.underlying34 (by kernel_rfl) (by kernel_rfl) hv h
  have wf := fun (j : Nat) (f : Field) hf (y : DataW H × List MemPlace) (hy : ys[j]? = some y) => weighs_field Try.underlying34 hw (j := j) (f := f) hf (d := y.1) (by simp [hy])
  obtain ⟨x0, y0, q0, u0, t0⟩ := hf 0 _ rfl
  obtain ⟨x1, y1, q1, u1, t1⟩ := hf 1 _ rfl
  obtain ⟨x2, y2, q2, u2, t2⟩ := hf 2 _ rfl
  obtain ⟨x3, y3, q3, u3, t3⟩ := hf 3 _ rfl
  obtain ⟨x4, y4, q4, u4, t4⟩ := hf 4 _ rfl
  have w1 := wf 1 _ rfl _ u1
  have w2 := wf 2 _ rfl _ u2
  obtain ⟨n0, e0, _, _⟩ := DataW.trod_int Try.underlying3 t0
  obtain ⟨n1, e1, z1, _⟩ := DataW.trod_string Try.underlying9 t1
  obtain ⟨n2, e2, z2, _⟩ := DataW.trod_string Try.underlying9 t2
  obtain ⟨n3, e3, _, r3⟩ := DataW.trod_int Try.underlying3 t3
  obtain ⟨A, c, z, e4, hin⟩ := intRow_in Try.underlying32 Try.underlying3 (by kernel_rfl) t4
  rw [z1] at w1
  rw [z2] at w2
  obtain rfl : x0 = .int .i64 n0 := by simpa using e0
  obtain rfl : x1 = .string n1 := by simpa using e1
  obtain rfl : x2 = .string n2 := by simpa using e2
  obtain rfl : x3 = .int .i64 n3 := by simpa using e3
  subst e4
  obtain ⟨k1, k2⟩ := keep_of hin
  refine ⟨⟨n0, n1, n2, n3, A, c, z⟩, ?_, ⟨weighs_str w1, weighs_str w2, ?_, k1, k2⟩⟩
  · unfold opV
    congr 1
    exact arr5 hsz q0 q1 q2 q3 q4
  · exact wf_range r3
/-- Two texts, a cut, and what is kept. -/
structure ApR where
  one : ByteArray
  two : ByteArray
  cut : Int
  at_ : Option Addr
  c : Nat
  keep : List Int
def apV (o : ApR) : Value := .agg #[.string o.one, .string o.two, .int .i64 o.cut, .slice o.at_ o.keep.length o.c]
structure ApIn (w : World) (o : ApR) : Prop where
  one : o.one.size ≤ 140737488351232
  two : o.two.size ≤ 140737488351232
  cut : -9223372036854775808 ≤ o.cut ∧ o.cut ≤ 9223372036854775807
  keep : KeepIn w (fun k => w.heap.size ≤ k) o.at_ o.c o.keep
  len : o.keep.length ≤ 9223372036854775807
set_option maxRecDepth 100000 in
theorem open_apart {r : Reach} {b0 : Nat} {v : Value} {d : DataW H} {p : List MemPlace} (hv : Value.okWide Try.prog w r b0 54 v) (h : DataW.Trod enc Try.prog w base sp held 54 v d p) (hw : Weighs Try.prog 54 d) :
    ∃ o : ApR, v = apV o ∧ ApIn w o := by
  obtain ⟨cs, ys, n, rfl, hsz, rfl, hyl, hf⟩ := open_fields Try.underlying54 (by kernel_rfl) (by kernel_rfl) hv h
  have wf := fun (j : Nat) (f : Field) hf (y : DataW H × List MemPlace) (hy : ys[j]? = some y) => weighs_field Try.underlying54 hw (j := j) (f := f) hf (d := y.1) (by simp [hy])
  obtain ⟨x0, y0, q0, u0, t0⟩ := hf 0 _ rfl
  obtain ⟨x1, y1, q1, u1, t1⟩ := hf 1 _ rfl
  obtain ⟨x2, y2, q2, u2, t2⟩ := hf 2 _ rfl
  obtain ⟨x3, y3, q3, u3, t3⟩ := hf 3 _ rfl
  have w0 := wf 0 _ rfl _ u0
  have w1 := wf 1 _ rfl _ u1
  obtain ⟨n0, e0, z0, _⟩ := DataW.trod_string Try.underlying9 t0
  obtain ⟨n1, e1, z1, _⟩ := DataW.trod_string Try.underlying9 t1
  obtain ⟨n2, e2, _, r2⟩ := DataW.trod_int Try.underlying3 t2
  obtain ⟨A, c, z, e3, hin⟩ := intRow_in Try.underlying32 Try.underlying3 (by kernel_rfl) t3
  rw [z0] at w0
  rw [z1] at w1
  obtain rfl : x0 = .string n0 := by simpa using e0
  obtain rfl : x1 = .string n1 := by simpa using e1
  obtain rfl : x2 = .int .i64 n2 := by simpa using e2
  subst e3
  obtain ⟨k1, k2⟩ := keep_of hin
  refine ⟨⟨n0, n1, n2, A, c, z⟩, ?_, ⟨weighs_str w0, weighs_str w1, wf_range r2, k1, k2⟩⟩
  unfold apV
  congr 1
  exact arr4 hsz q0 q1 q2 q3
end
end Go.Proofs.Ytpdimmkacjilgaa
