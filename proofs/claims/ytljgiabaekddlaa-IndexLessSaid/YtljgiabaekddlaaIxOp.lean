import Derived.OpenShut
import Derived.ProofKit
import Derived.SizedLaws
import Derived.Deep.Slices
import Derived.Deep.Fields
import Derived.Test.YtljgiabaekddlaaIxRep
import Derived.KernelRfl
/- What an argument that is a struct, or a slice of structs, reads as; and how great its texts are. Plain words. No condition. -/
namespace Go.Proofs.Ytljgiabaekddlaa
open Go.RowKit Go.WideShapes Go.ChangeShapes Go.Deep
set_option linter.unusedVariables false
section
variable {H : Type} {enc : TypeId × Value → H} {P : Program} {w : World} {base : Nat} {sp : Nat → Bool} {held : Bool}
/-- None of a datum's parts is greater than what may be read. -/
def Weighs (P : Program) (t : TypeId) (d : DataW H) : Prop := ∀ n ∈ d.weights P t, n ≤ reachBytes
theorem reach_47 : reachBytes = 140737488351232 := by decide
theorem weighs_param {ts : List TypeId} {ds : List (DataW H)} (h : (DataW.weightsEach P ts ds).all (· ≤ reachBytes) = true) {j : Nat} {t : TypeId} {d : DataW H} (ht : ts[j]? = some t) (hd : ds[j]? = some d) : Weighs P t d := fun n hn => by
  have := List.all_eq_true.1 h _ (DataW.weights_mem_each ht hd n hn)
  simpa using this
theorem weighs_field {t : TypeId} {fs : Array Field} {parts : List (DataW H)} (hs : P.underlying t = some (.struct fs)) (h : Weighs P t (.agg parts)) {j : Nat} {f : Field} {d : DataW H} (hf : fs[j]? = some f) (hd : parts[j]? = some d) : Weighs P f.type d := fun n hn => by
  refine h n ?_
  simp only [DataW.weights, hs]
  refine DataW.weights_mem_each (j := j) ?_ hd n hn
  simp [hf]
theorem weightsAll_mem {e : TypeId} : ∀ {l : List (DataW H)} {i : Nat} {d : DataW H}, l[i]? = some d → ∀ n ∈ d.weights P e, n ∈ DataW.weightsAll P e l
  | [], _, _, h, _, _ => by simp at h
  | x :: l, 0, d, h, n, hn => by
    have : x = d := by simpa using h
    subst this
    simp only [DataW.weightsAll, List.mem_append]
    exact .inl hn
  | x :: l, i + 1, d, h, n, hn => by
    simp only [DataW.weightsAll, List.mem_append]
    exact .inr (weightsAll_mem (by simpa using h) n hn)
theorem weighs_elem {t e : TypeId} {elems spare : List (DataW H)} (hu : P.underlying t = some (.slice e)) (h : Weighs P t (.slice elems spare)) {i : Nat} {d : DataW H} (hd : elems[i]? = some d) : Weighs P e d := fun n hn => by
  refine h n ?_
  simp only [DataW.weights, hu, List.mem_cons, List.mem_append]
  exact .inr (.inl (weightsAll_mem hd n hn))
theorem weighs_len {t e : TypeId} {elems spare : List (DataW H)} (hu : P.underlying t = some (.slice e)) (h : Weighs P t (.slice elems spare)) : (elems.length + spare.length) * P.bytesOf e ≤ reachBytes := by
  refine h _ ?_
  simp only [DataW.weights, hu, List.mem_cons]
  exact .inl trivial
theorem weighs_str {t : TypeId} {s : ByteArray} (h : Weighs P t (.lit (.string s.data.toList) : DataW H)) : s.size ≤ 140737488351232 := by
  have := h s.size (by simp [DataW.weights])
  rwa [reach_47] at this
/-- A struct of one-cell fields, each read by itself. -/
theorem open_fields {r : Reach} {b0 : Nat} {t : TypeId} {fs : Array Field} {v : Value} {d : DataW H} {p : List MemPlace} (hs : P.underlying t = some (.struct fs)) (hone : oneCellFields P fs = true) (hC : P.cellsOf t = fs.size)
    (hv : Value.okWide P w r b0 t v) (h : DataW.Trod enc P w base sp held t v d p) :
    ∃ (cs : Array Value) (ys : List (DataW H × List MemPlace)) (n : Nat), v = .agg cs ∧ cs.size = fs.size ∧ d = .agg (ys.map (·.1)) ∧ ys.length = fs.size ∧
      ∀ (j : Nat) (f : Field), fs[j]? = some f → ∃ (x : Value) (y : DataW H × List MemPlace), cs[j]? = some x ∧ ys[j]? = some y ∧ DataW.trod enc P w base sp held n f.type [x] = some y := by
  obtain ⟨cs, rfl, hsz⟩ := okWide_struct hs hv
  obtain ⟨fuel, hf⟩ := h
  obtain ⟨xs, n, _, hx, hl, hlen, hg⟩ := DataW.trod_struct hs hf
  simp only [Prod.mk.injEq] at hx
  refine ⟨cs, xs, n, rfl, hsz.trans hC, hx.1, hlen, fun j f hj => ?_⟩
  obtain ⟨ho, hk⟩ := hone_of hone j f hj
  have hjl : j < fs.size := (Array.getElem?_eq_some_iff.1 hj).1
  have hcl : j < cs.size := by rw [hsz, hC]; exact hjl
  have h1 := hg j f hj
  rw [ho, hk] at h1
  have e1 : ((Value.agg cs).cells.toList.drop j).take 1 = [cs[j]] := by
    show (cs.toList.drop j).take 1 = _
    rw [List.drop_eq_getElem_cons (by simpa using hcl)]
    simp
  rw [e1] at h1
  have hjx : j < xs.length := by rw [hlen]; exact hjl
  exact ⟨cs[j], xs[j], by simp [hcl], List.getElem?_eq_getElem hjx, h1.trans (List.getElem?_eq_getElem hjx)⟩
theorem addr_plain {a : Addr} {v : Value} (h : w.cell? (a.add 0) = some v) : ∃ b off, a = ⟨b, off, none⟩ ∧ b < w.heap.size := by
  obtain ⟨b, off, spot⟩ := a
  have hspot : spot = none := by simpa [Addr.add] using World.cell?_spot h
  subst hspot
  refine ⟨b, off, rfl, ?_⟩
  rcases Nat.lt_or_ge b w.heap.size with hlt | hge
  · exact hlt
  · exfalso
    simp [Addr.add, World.cell?, Array.getElem?_eq_none hge] at h
theorem add_at (b off i : Nat) : (⟨b, off, none⟩ : Addr).add i = ⟨b, off + i, none⟩ := by unfold Addr.add; split <;> simp_all
/-- A slice of structs of two texts. -/
theorem open_cells {t : TypeId} {fs : Array Field} {n : Nat} {cs' : List Value} {d : DataW H} {p : List MemPlace} (hs : P.underlying t = some (.struct fs)) (hone : oneCellFields P fs = true) (hl : cs'.length = fs.size)
    (ht' : DataW.trod enc P w base sp held n t cs' = some (d, p)) (hwe : Weighs P t d) :
    ∃ n2, ∀ (k : Nat) (f : Field), fs[k]? = some f → ∃ (x : Value) (z : DataW H × List MemPlace), cs'[k]? = some x ∧ DataW.trod enc P w base sp held n2 f.type [x] = some z ∧ Weighs P f.type z.1 := by
  obtain ⟨ys, n2, hn2, hy, hcl, hyl, hff⟩ := DataW.trod_struct hs ht'
  simp only [Prod.mk.injEq] at hy
  rw [hy.1] at hwe
  have hone' := hone_of hone
  refine ⟨n2, fun k f hk => ?_⟩
  obtain ⟨ho, hkk⟩ := hone' k f hk
  have q := hff k f hk
  rw [ho, hkk] at q
  have hkf : k < fs.size := (Array.getElem?_eq_some_iff.1 hk).1
  have e1 : (cs'.drop k).take 1 = [cs'[k]'(by omega)] := by
    rw [List.drop_eq_getElem_cons (by omega)]; rfl
  rw [e1] at q
  have hkl : k < ys.length := by rw [hyl]; exact hkf
  have hyk : ys[k]? = some ys[k] := List.getElem?_eq_getElem hkl
  rw [hyk] at q
  exact ⟨_, _, List.getElem?_eq_getElem (by omega), q, weighs_field hs hwe hk (d := ys[k].1) (by simp [hyk])⟩
end
section
variable {H : Type} {enc : TypeId × Value → H} {w : World} {base : Nat} {sp : Nat → Bool} {held : Bool}
set_option maxRecDepth 100000 in
theorem open_item {r : Reach} {b0 : Nat} {v : Value} {d : DataW H} {p : List MemPlace} (hv : Value.okWide Try.prog w r b0 35 v) (h : DataW.Trod enc Try.prog w base sp held 35 v d p) :
    ∃ e : En, v = .agg #[.int .i64 e.1, .int .i64 e.2.1, .int .i64 e.2.2] := by
  obtain ⟨cs, ys, n, rfl, hsz, rfl, hyl, hf⟩ := open_fields Try.underlying35 (by kernel_rfl) (by kernel_rfl) hv h
  obtain ⟨x0, y0, q0, u0, t0⟩ := hf 0 _ rfl
  obtain ⟨x1, y1, q1, u1, t1⟩ := hf 1 _ rfl
  obtain ⟨x2, y2, q2, u2, t2⟩ := hf 2 _ rfl
  obtain ⟨n0, e0, _, _⟩ := DataW.trod_int Try.underlying3 t0
  obtain ⟨n1, e1, _, _⟩ := DataW.trod_int Try.underlying3 t1
  obtain ⟨n2, e2, _, _⟩ := DataW.trod_int Try.underlying3 t2
  obtain rfl : x0 = .int .i64 n0 := by simpa using e0
  obtain rfl : x1 = .int .i64 n1 := by simpa using e1
  obtain rfl : x2 = .int .i64 n2 := by simpa using e2
  refine ⟨(n0, n1, n2), ?_⟩
  congr 1
  obtain ⟨l⟩ := cs
  match l, hsz with
  | [a, b, c], _ =>
    simp at q0 q1 q2
    subst q0 q1 q2
    rfl
/-- A list of items in memory. -/
def ItsIn (w : World) (A : Option Addr) (L : List En) : Prop :=
  0 < L.length → ∃ b off, A = some ⟨b, off, none⟩ ∧ b < w.heap.size ∧ ∀ j e, L[j]? = some e → w.cell? ⟨b, off + j * 3, none⟩ = some (.int .i64 e.1) ∧ w.cell? ⟨b, off + j * 3 + 1, none⟩ = some (.int .i64 e.2.1) ∧ w.cell? ⟨b, off + j * 3 + 2, none⟩ = some (.int .i64 e.2.2)
set_option maxRecDepth 100000 in
theorem open_its1 {n : Nat} {x : Value} {y : DataW H × List MemPlace} (h : DataW.trod enc Try.prog w base sp held n 22 [x] = some y) (hw : Weighs Try.prog 22 y.1) :
    ∃ (A : Option Addr) (c : Nat) (L : List En), x = .slice A L.length c ∧ ItsIn w A L ∧ L.length ≤ 140737488351232 := by
  rcases open_slice Try.underlying22 h with ⟨hcs, _⟩ | ⟨a, len, cap, m, n', D, Pl, hcs, _, hlc, _, hm, hx, hi⟩
  · have : x = .slice none 0 0 := by simpa using hcs
    exact ⟨none, 0, [], this, fun hp => by simp at hp, by simp⟩
  · have hxv : x = .slice (some a) len cap := by simpa using hcs
    have hlm : len ≤ m := by rw [hm]; split <;> omega
    have hD : y.1 = .slice ((List.range len).map D) ((List.range (m - len)).map fun j => D (len + j)) := by rw [hx]
    rw [hD] at hw
    have hlen := weighs_len Try.underlying22 hw
    rw [reach_47] at hlen
    simp only [List.length_map, List.length_range] at hlen
    have hl2 : len * 24 ≤ 140737488351232 := by
      refine Nat.le_trans ?_ hlen
      exact Nat.mul_le_mul (by omega) (by decide +kernel)
    have key : ∀ i, i < len → ∃ e : En, w.cell? ((a.add (i * 3)).add 0) = some (.int .i64 e.1) ∧ w.cell? ((a.add (i * 3)).add 1) = some (.int .i64 e.2.1) ∧ w.cell? ((a.add (i * 3)).add 2) = some (.int .i64 e.2.2) := by
      intro i hil
      obtain ⟨cs', hc, ht'⟩ := hi i (by omega)
      rw [show Try.prog.cellsOf 35 = 3 by kernel_rfl] at hc
      obtain ⟨_, hcl2, hat⟩ := World.cells?_some hc
      have hwe : Weighs Try.prog 35 (D i) := weighs_elem Try.underlying22 hw (i := i) (by simp [hil])
      obtain ⟨n2, get⟩ := open_cells Try.underlying35 (by kernel_rfl) hcl2 ht' hwe
      obtain ⟨x0, y0, q0, t0, w0⟩ := get 0 _ rfl
      obtain ⟨x1, y1, q1, t1, w1⟩ := get 1 _ rfl
      obtain ⟨x2, y2, q2, t2, w2⟩ := get 2 _ rfl
      obtain ⟨n0, e0, _, _⟩ := DataW.trod_int Try.underlying3 t0
      obtain ⟨n1, e1, _, _⟩ := DataW.trod_int Try.underlying3 t1
      obtain ⟨n2, e2, _, _⟩ := DataW.trod_int Try.underlying3 t2
      obtain rfl : x0 = .int .i64 n0 := by simpa using e0
      obtain rfl : x1 = .int .i64 n1 := by simpa using e1
      obtain rfl : x2 = .int .i64 n2 := by simpa using e2
      exact ⟨(n0, n1, n2), by rw [hat 0 (by decide)]; exact q0, by rw [hat 1 (by decide)]; exact q1, by rw [hat 2 (by decide)]; exact q2⟩
    have hex : ∃ F : Nat → En, ∀ i, i < len → w.cell? ((a.add (i * 3)).add 0) = some (.int .i64 (F i).1) ∧ w.cell? ((a.add (i * 3)).add 1) = some (.int .i64 (F i).2.1) ∧ w.cell? ((a.add (i * 3)).add 2) = some (.int .i64 (F i).2.2) := by
      classical
      refine ⟨fun i => if h : i < len then Classical.choose (key i h) else (0, 0, 0), fun i hil => ?_⟩
      simp only [dif_pos hil]
      exact Classical.choose_spec (key i hil)
    obtain ⟨F, hF⟩ := hex
    refine ⟨some a, cap, (List.range len).map F, by simp [hxv], fun hp => ?_, by simp; omega⟩
    have hp' : 0 < len := by simpa using hp
    obtain ⟨b, off, rfl, hb⟩ := addr_plain (w := w) (a := a) (v := .int .i64 (F 0).1) (by
      have h0 := (hF 0 hp').1
      rw [Nat.zero_mul] at h0
      have e : ∀ a : Addr, a.add 0 = a := fun a => by unfold Addr.add; rfl
      rw [e, e] at h0
      rw [e]
      exact h0)
    refine ⟨b, off, rfl, hb, fun j o hj => ?_⟩
    obtain ⟨hj1, hj2⟩ := List.getElem?_eq_some_iff.1 hj
    have hj' : j < len := by simpa using hj1
    have : F j = o := by simpa using hj2
    subst this
    obtain ⟨h1, h2, h3⟩ := hF j hj'
    rw [add_at, add_at] at h1 h2 h3
    exact ⟨h1, h2, h3⟩
theorem open_its {r : Reach} {b0 : Nat} {v : Value} {d : DataW H} {p : List MemPlace} (hv : Value.okWide Try.prog w r b0 22 v) (h : DataW.Trod enc Try.prog w base sp held 22 v d p) (hw : Weighs Try.prog 22 d) :
    ∃ (A : Option Addr) (c : Nat) (L : List En), v = .slice A L.length c ∧ ItsIn w A L ∧ L.length ≤ 140737488351232 := by
  obtain ⟨fuel, hf⟩ := h
  obtain ⟨A0, len0, cap0, rfl⟩ := okWide_slice Try.underlying22 hv
  exact open_its1 hf hw
set_option maxRecDepth 100000 in
theorem open_ahead {r : Reach} {b0 : Nat} {v : Value} {d : DataW H} {p : List MemPlace} (hv : Value.okWide Try.prog w r b0 43 v) (h : DataW.Trod enc Try.prog w base sp held 43 v d p) (hw : Weighs Try.prog 43 d) :
    ∃ (ev off tm : Int) (A : Option Addr) (c : Nat) (L : List En), v = .agg #[.int .i64 ev, .slice A L.length c, .int .i64 off, .int .i64 tm] ∧ ItsIn w A L ∧ L.length ≤ 140737488351232 := by
  obtain ⟨cs, ys, n, rfl, hsz, rfl, hyl, hf⟩ := open_fields Try.underlying43 (by kernel_rfl) (by kernel_rfl) hv h
  have wf := fun (j : Nat) (f : Field) hf (y : DataW H × List MemPlace) (hy : ys[j]? = some y) => weighs_field Try.underlying43 hw (j := j) (f := f) hf (d := y.1) (by simp [hy])
  obtain ⟨x0, y0, q0, u0, t0⟩ := hf 0 _ rfl
  obtain ⟨x1, y1, q1, u1, t1⟩ := hf 1 _ rfl
  obtain ⟨x2, y2, q2, u2, t2⟩ := hf 2 _ rfl
  obtain ⟨x3, y3, q3, u3, t3⟩ := hf 3 _ rfl
  have w1 := wf 1 _ rfl _ u1
  obtain ⟨n0, e0, _, _⟩ := DataW.trod_int Try.underlying3 t0
  obtain ⟨n2, e2, _, _⟩ := DataW.trod_int Try.underlying3 t2
  obtain ⟨n3, e3, _, _⟩ := DataW.trod_int Try.underlying3 t3
  obtain ⟨A, c, L, e1, hin, hl⟩ := open_its1 t1 w1
  obtain rfl : x0 = .int .i64 n0 := by simpa using e0
  obtain rfl : x2 = .int .i64 n2 := by simpa using e2
  obtain rfl : x3 = .int .i64 n3 := by simpa using e3
  subst e1
  refine ⟨n0, n2, n3, A, c, L, ?_, hin, hl⟩
  congr 1
  obtain ⟨l⟩ := cs
  match l, hsz with
  | [a, b, c, d], _ =>
    simp at q0 q1 q2 q3
    subst q0 q1 q2 q3
    rfl
end
end Go.Proofs.Ytljgiabaekddlaa
