import Derived.OpenShut
import Derived.ProofKit
import Derived.SizedLaws
import Derived.Deep.Slices
import Derived.Deep.Fields
import Derived.Test.YtdhakekndinbeaaImBase
import Derived.KernelRfl
/- What an argument that is a struct, or a slice of structs, reads as; and how great its texts are. Plain words. No condition. -/
namespace Go.Proofs.Ytdhakekndinbeaa
open Go.RowKit Go.WideShapes Go.ChangeShapes Go.Deep
set_option linter.unusedVariables false
section
variable {H : Type} {enc : TypeId × Value → H} {P : Program} {w : World} {base : Nat} {sp : Nat → Bool} {held : Bool}
/-- None of a datum's parts is greater than what may be read. -/
def Weighs (P : Program) (t : TypeId) (d : DataW H) : Prop := ∀ n ∈ d.weights P t, n ≤ reachBytes
theorem reach_47 : reachBytes = 140737488351232 := by decide
theorem weighs_param {ts : List TypeId} {ds : List (DataW H)} (h : (DataW.weightsEach P ts ds).all (· ≤ reachBytes) = true) {j : Nat} {t : TypeId} {d : DataW H} (ht : ts[j]? = some t) (hd : ds[j]? = some d) : Weighs P t d := fun n hn => by
  have := List.all_eq_true.1 h _ (DataW.weights_mem_each ht hd n hn)
  simpa using this
theorem weighs_field {t : TypeId} {fs : Array Field} {parts : List (DataW H)} (hs : P.underlying t = some (.struct fs)) (h : Weighs P t (.agg parts)) {j : Nat} {f : Field} {d : DataW H} (hf : fs[j]? = some f) (hd : parts[j]? = some d) : Weighs P f.type d := fun n hn => by
  refine h n ?_
  simp only [DataW.weights, hs]
  refine DataW.weights_mem_each (j := j) ?_ hd n hn
  simp [hf]
theorem weightsAll_mem {e : TypeId} : ∀ {l : List (DataW H)} {i : Nat} {d : DataW H}, l[i]? = some d → ∀ n ∈ d.weights P e, n ∈ DataW.weightsAll P e l
  | [], _, _, h, _, _ => by simp at h
  | x :: l, 0, d, h, n, hn => by
    have : x = d := by simpa using h
    subst this
    simp only [DataW.weightsAll, List.mem_append]
    exact .inl hn
  | x :: l, i + 1, d, h, n, hn => by
    simp only [DataW.weightsAll, List.mem_append]
    exact .inr (weightsAll_mem (by simpa using h) n hn)
theorem weighs_elem {t e : TypeId} {elems spare : List (DataW H)} (hu : P.underlying t = some (.slice e)) (h : Weighs P t (.slice elems spare)) {i : Nat} {d : DataW H} (hd : elems[i]? = some d) : Weighs P e d := fun n hn => by
  refine h n ?_
  simp only [DataW.weights, hu, List.mem_cons, List.mem_append]
  exact .inr (.inl (weightsAll_mem hd n hn))
theorem weighs_len {t e : TypeId} {elems spare : List (DataW H)} (hu : P.underlying t = some (.slice e)) (h : Weighs P t (.slice elems spare)) : (elems.length + spare.length) * P.bytesOf e ≤ reachBytes := by
  refine h _ ?_
  simp only [DataW.weights, hu, List.mem_cons]
  exact .inl trivial
theorem weighs_str {t : TypeId} {s : ByteArray} (h : Weighs P t (.lit (.string s.data.toList) : DataW H)) : s.size ≤ 140737488351232 := by
  have := h s.size (by simp [DataW.weights])
  rwa [reach_47] at this
/-- A struct of one-cell fields, each read by itself. -/
theorem open_fields {r : Reach} {b0 : Nat} {t : TypeId} {fs : Array Field} {v : Value} {d : DataW H} {p : List MemPlace} (hs : P.underlying t = some (.struct fs)) (hone : oneCellFields P fs = true) (hC : P.cellsOf t = fs.size)
    (hv : Value.okWide P w r b0 t v) (h : DataW.Trod enc P w base sp held t v d p) :
    ∃ (cs : Array Value) (ys : List (DataW H × List MemPlace)) (n : Nat), v = .agg cs ∧ cs.size = fs.size ∧ d = .agg (ys.map (·.1)) ∧ ys.length = fs.size ∧
      ∀ (j : Nat) (f : Field), fs[j]? = some f → ∃ (x : Value) (y : DataW H × List MemPlace), cs[j]? = some x ∧ ys[j]? = some y ∧ DataW.trod enc P w base sp held n f.type [x] = some y := by
  obtain ⟨cs, rfl, hsz⟩ := okWide_struct hs hv
  obtain ⟨fuel, hf⟩ := h
  obtain ⟨xs, n, _, hx, hl, hlen, hg⟩ := DataW.trod_struct hs hf
  simp only [Prod.mk.injEq] at hx
  refine ⟨cs, xs, n, rfl, hsz.trans hC, hx.1, hlen, fun j f hj => ?_⟩
  obtain ⟨ho, hk⟩ := hone_of hone j f hj
  have hjl : j < fs.size := (Array.getElem?_eq_some_iff.1 hj).1
  have hcl : j < cs.size := by rw [hsz, hC]; exact hjl
  have h1 := hg j f hj
  rw [ho, hk] at h1
  have e1 : ((Value.agg cs).cells.toList.drop j).take 1 = [cs[j]] := by
    show (cs.toList.drop j).take 1 = _
    rw [List.drop_eq_getElem_cons (by simpa using hcl)]
    simp
  rw [e1] at h1
  have hjx : j < xs.length := by rw [hlen]; exact hjl
  exact ⟨cs[j], xs[j], by simp [hcl], List.getElem?_eq_getElem hjx, h1.trans (List.getElem?_eq_getElem hjx)⟩
theorem addr_plain {a : Addr} {v : Value} (h : w.cell? (a.add 0) = some v) : ∃ b off, a = ⟨b, off, none⟩ ∧ b < w.heap.size := by
  obtain ⟨b, off, spot⟩ := a
  have hspot : spot = none := by simpa [Addr.add] using World.cell?_spot h
  subst hspot
  refine ⟨b, off, rfl, ?_⟩
  rcases Nat.lt_or_ge b w.heap.size with hlt | hge
  · exact hlt
  · exfalso
    simp [Addr.add, World.cell?, Array.getElem?_eq_none hge] at h
theorem add_at (b off i : Nat) : (⟨b, off, none⟩ : Addr).add i = ⟨b, off + i, none⟩ := by unfold Addr.add; split <;> simp_all
/-- A slice of structs of two texts. -/
theorem open_cells {t : TypeId} {fs : Array Field} {n : Nat} {cs' : List Value} {d : DataW H} {p : List MemPlace} (hs : P.underlying t = some (.struct fs)) (hone : oneCellFields P fs = true) (hl : cs'.length = fs.size)
    (ht' : DataW.trod enc P w base sp held n t cs' = some (d, p)) (hwe : Weighs P t d) :
    ∃ n2, ∀ (k : Nat) (f : Field), fs[k]? = some f → ∃ (x : Value) (z : DataW H × List MemPlace), cs'[k]? = some x ∧ DataW.trod enc P w base sp held n2 f.type [x] = some z ∧ Weighs P f.type z.1 := by
  obtain ⟨ys, n2, hn2, hy, hcl, hyl, hff⟩ := DataW.trod_struct hs ht'
  simp only [Prod.mk.injEq] at hy
  rw [hy.1] at hwe
  have hone' := hone_of hone
  refine ⟨n2, fun k f hk => ?_⟩
  obtain ⟨ho, hkk⟩ := hone' k f hk
  have q := hff k f hk
  rw [ho, hkk] at q
  have hkf : k < fs.size := (Array.getElem?_eq_some_iff.1 hk).1
  have e1 : (cs'.drop k).take 1 = [cs'[k]'(by omega)] := by
    rw [List.drop_eq_getElem_cons (by omega)]; rfl
  rw [e1] at q
  have hkl : k < ys.length := by rw [hyl]; exact hkf
  have hyk : ys[k]? = some ys[k] := List.getElem?_eq_getElem hkl
  rw [hyk] at q
  exact ⟨_, _, List.getElem?_eq_getElem (by omega), q, weighs_field hs hwe hk (d := ys[k].1) (by simp [hyk])⟩
end
section
variable {H : Type} {enc : TypeId × Value → H} {w : World} {base : Nat} {sp : Nat → Bool} {held : Bool}
theorem trod_slc {t e : TypeId} (hu : Try.prog.underlying t = some (.slice e)) {n : Nat} {x : Value} {y : DataW H × List MemPlace} (h : DataW.trod enc Try.prog w base sp held n t [x] = some y) : ∃ A m c, x = .slice A m c := by
  rcases open_slice hu h with ⟨hcs, _⟩ | ⟨a, len, cap, m, n', D, Pl, hcs, _⟩
  · exact ⟨none, 0, 0, by simpa using hcs⟩
  · exact ⟨some a, len, cap, by simpa using hcs⟩
/-- A batch's numbers, and its records' slice. -/
abbrev BX := BN × Option Addr × Nat × Nat
def bxV (x : BX) : Value := bnV x.1 x.2.1 x.2.2.1 x.2.2.2
/-- What stands at a place is a batch. -/
def BxAt (w : World) (b off : Nat) (x : BX) : Prop :=
  w.cell? ⟨b, off, none⟩ = some (.int .i64 x.1.base) ∧ w.cell? ⟨b, off + 1, none⟩ = some (.int .i64 x.1.span) ∧ w.cell? ⟨b, off + 2, none⟩ = some (.int .i64 x.1.prod) ∧ w.cell? ⟨b, off + 3, none⟩ = some (.int .i64 x.1.epoch) ∧ w.cell? ⟨b, off + 4, none⟩ = some (.int .i64 x.1.seq) ∧ w.cell? ⟨b, off + 5, none⟩ = some (.slice x.2.1 x.2.2.1 x.2.2.2)
theorem batch_of {n : Nat} {x0 x1 x2 x3 x4 x5 : Value} {y0 y1 y2 y3 y4 y5 : DataW H × List MemPlace} (t0 : DataW.trod enc Try.prog w base sp held n 3 [x0] = some y0) (t1 : DataW.trod enc Try.prog w base sp held n 3 [x1] = some y1) (t2 : DataW.trod enc Try.prog w base sp held n 3 [x2] = some y2)
    (t3 : DataW.trod enc Try.prog w base sp held n 3 [x3] = some y3) (t4 : DataW.trod enc Try.prog w base sp held n 3 [x4] = some y4) (t5 : DataW.trod enc Try.prog w base sp held n 29 [x5] = some y5) :
    ∃ x : BX, x0 = .int .i64 x.1.base ∧ x1 = .int .i64 x.1.span ∧ x2 = .int .i64 x.1.prod ∧ x3 = .int .i64 x.1.epoch ∧ x4 = .int .i64 x.1.seq ∧ x5 = .slice x.2.1 x.2.2.1 x.2.2.2 := by
  obtain ⟨n0, e0, _, _⟩ := DataW.trod_int Try.underlying3 t0
  obtain ⟨n1, e1, _, _⟩ := DataW.trod_int Try.underlying3 t1
  obtain ⟨n2, e2, _, _⟩ := DataW.trod_int Try.underlying3 t2
  obtain ⟨n3, e3, _, _⟩ := DataW.trod_int Try.underlying3 t3
  obtain ⟨n4, e4, _, _⟩ := DataW.trod_int Try.underlying3 t4
  obtain ⟨A, m, c, e5⟩ := trod_slc Try.underlying29 t5
  exact ⟨(⟨n0, n1, n2, n3, n4⟩, A, m, c), by simpa using e0, by simpa using e1, by simpa using e2, by simpa using e3, by simpa using e4, e5⟩
set_option maxRecDepth 100000 in
theorem open_bat {r : Reach} {b0 : Nat} {v : Value} {d : DataW H} {p : List MemPlace} (hv : Value.okWide Try.prog w r b0 31 v) (h : DataW.Trod enc Try.prog w base sp held 31 v d p) (hw : Weighs Try.prog 31 d) :
    ∃ (b : BN) (n : Nat) (A : Option Addr) (c : Nat), v = .agg #[.int .i64 b.base, .int .i64 b.span, .int .i64 b.prod, .int .i64 b.epoch, .int .i64 b.seq, .slice A n c] ∧ True ∧ True := by
  obtain ⟨cs, ys, n, rfl, hsz, rfl, hyl, hf⟩ := open_fields Try.underlying31 (by kernel_rfl) (by kernel_rfl) hv h
  obtain ⟨x0, y0, q0, u0, t0⟩ := hf 0 _ rfl
  obtain ⟨x1, y1, q1, u1, t1⟩ := hf 1 _ rfl
  obtain ⟨x2, y2, q2, u2, t2⟩ := hf 2 _ rfl
  obtain ⟨x3, y3, q3, u3, t3⟩ := hf 3 _ rfl
  obtain ⟨x4, y4, q4, u4, t4⟩ := hf 4 _ rfl
  obtain ⟨x5, y5, q5, u5, t5⟩ := hf 5 _ rfl
  obtain ⟨⟨b, A, m, c⟩, rfl, rfl, rfl, rfl, rfl, rfl⟩ := batch_of t0 t1 t2 t3 t4 t5
  refine ⟨b, m, A, c, ?_, trivial, trivial⟩
  congr 1
  obtain ⟨l⟩ := cs
  match l, hsz with
  | [a, b, c, d, e, f], _ =>
    simp at q0 q1 q2 q3 q4 q5
    subst q0 q1 q2 q3 q4 q5
    rfl
/-- A list of batches in memory. -/
def BxsIn (w : World) (A : Option Addr) (L : List BX) : Prop :=
  0 < L.length → ∃ b off, A = some ⟨b, off, none⟩ ∧ b < w.heap.size ∧ ∀ j x, L[j]? = some x → BxAt w b (off + j * 6) x
theorem BxsIn.at_ {w w' : World} {A : Option Addr} {L : List BX} (h : BxsIn w A L) (hb : Below w.heap.size w w') {k : Nat} {x : BX} (hk : L[k]? = some x) : ∃ b off, A = some ⟨b, off, none⟩ ∧ b < w'.heap.size ∧ BxAt w' b (off + k * 6) x := by
  obtain ⟨b, off, hA, hl, hc⟩ := h (by have := (List.getElem?_eq_some_iff.1 hk).1; omega)
  obtain ⟨h0, h1, h2, h3, h4, h5⟩ := hc k x hk
  have go : ∀ (o : Nat) (v : Value), w.cell? ⟨b, o, none⟩ = some v → w'.cell? ⟨b, o, none⟩ = some v := fun o v h => (hb.cell (p := ⟨b, o, none⟩) hl).trans h
  exact ⟨b, off, hA, Nat.lt_of_lt_of_le hl hb.size, go _ _ h0, go _ _ h1, go _ _ h2, go _ _ h3, go _ _ h4, go _ _ h5⟩
set_option maxRecDepth 100000 in
theorem open_bats {r : Reach} {b0 : Nat} {v : Value} {d : DataW H} {p : List MemPlace} (hv : Value.okWide Try.prog w r b0 47 v) (hh : DataW.Trod enc Try.prog w base sp held 47 v d p) (hw : Weighs Try.prog 47 d) :
    ∃ (A : Option Addr) (c : Nat) (L : List BX), v = .slice A L.length c ∧ BxsIn w A L ∧ L.length ≤ 140737488351232 := by
  obtain ⟨n, h⟩ := hh
  obtain ⟨A0, len0, cap0, rfl⟩ := okWide_slice Try.underlying47 hv
  rcases open_slice Try.underlying47 h with ⟨hcs, _⟩ | ⟨a, len, cap, m, n', D, Pl, hcs, _, hlc, _, hm, hx, hi⟩
  · have : Value.slice A0 len0 cap0 = .slice none 0 0 := by simpa [Value.cells] using hcs
    exact ⟨none, 0, [], this, fun hp => by simp at hp, by simp⟩
  · have hxv : Value.slice A0 len0 cap0 = .slice (some a) len cap := by simpa [Value.cells] using hcs
    have hlm : len ≤ m := by rw [hm]; split <;> omega
    have hD : d = .slice ((List.range len).map D) ((List.range (m - len)).map fun j => D (len + j)) := by simpa using congrArg Prod.fst hx
    rw [hD] at hw
    have hlen := weighs_len Try.underlying47 hw
    rw [reach_47] at hlen
    simp only [List.length_map, List.length_range] at hlen
    have hl2 : len * 64 ≤ 140737488351232 := by
      refine Nat.le_trans ?_ hlen
      exact Nat.mul_le_mul (by omega) (by decide +kernel)
    have key : ∀ i, i < len → ∃ x : BX, w.cell? ((a.add (i * 6)).add 0) = some (.int .i64 x.1.base) ∧ w.cell? ((a.add (i * 6)).add 1) = some (.int .i64 x.1.span) ∧ w.cell? ((a.add (i * 6)).add 2) = some (.int .i64 x.1.prod) ∧ w.cell? ((a.add (i * 6)).add 3) = some (.int .i64 x.1.epoch) ∧ w.cell? ((a.add (i * 6)).add 4) = some (.int .i64 x.1.seq) ∧ w.cell? ((a.add (i * 6)).add 5) = some (.slice x.2.1 x.2.2.1 x.2.2.2) := by
      intro i hil
      obtain ⟨cs', hc, ht'⟩ := hi i (by omega)
      rw [show Try.prog.cellsOf 31 = 6 by kernel_rfl] at hc
      obtain ⟨_, hcl2, hat⟩ := World.cells?_some hc
      have hwe : Weighs Try.prog 31 (D i) := weighs_elem Try.underlying47 hw (i := i) (by simp [hil])
      obtain ⟨n2, get⟩ := open_cells Try.underlying31 (by kernel_rfl) hcl2 ht' hwe
      obtain ⟨x0, y0, q0, t0, _⟩ := get 0 _ rfl
      obtain ⟨x1, y1, q1, t1, _⟩ := get 1 _ rfl
      obtain ⟨x2, y2, q2, t2, _⟩ := get 2 _ rfl
      obtain ⟨x3, y3, q3, t3, _⟩ := get 3 _ rfl
      obtain ⟨x4, y4, q4, t4, _⟩ := get 4 _ rfl
      obtain ⟨x5, y5, q5, t5, _⟩ := get 5 _ rfl
      obtain ⟨x, rfl, rfl, rfl, rfl, rfl, rfl⟩ := batch_of t0 t1 t2 t3 t4 t5
      exact ⟨x, by rw [hat 0 (by decide)]; exact q0, by rw [hat 1 (by decide)]; exact q1, by rw [hat 2 (by decide)]; exact q2, by rw [hat 3 (by decide)]; exact q3, by rw [hat 4 (by decide)]; exact q4, by rw [hat 5 (by decide)]; exact q5⟩
    have hex : ∃ F : Nat → BX, ∀ i, i < len → w.cell? ((a.add (i * 6)).add 0) = some (.int .i64 (F i).1.base) ∧ w.cell? ((a.add (i * 6)).add 1) = some (.int .i64 (F i).1.span) ∧ w.cell? ((a.add (i * 6)).add 2) = some (.int .i64 (F i).1.prod) ∧ w.cell? ((a.add (i * 6)).add 3) = some (.int .i64 (F i).1.epoch) ∧ w.cell? ((a.add (i * 6)).add 4) = some (.int .i64 (F i).1.seq) ∧ w.cell? ((a.add (i * 6)).add 5) = some (.slice (F i).2.1 (F i).2.2.1 (F i).2.2.2) := by
      classical
      refine ⟨fun i => if h : i < len then Classical.choose (key i h) else (⟨0, 0, 0, 0, 0⟩, none, 0, 0), fun i hil => ?_⟩
      simp only [dif_pos hil]
      exact Classical.choose_spec (key i hil)
    obtain ⟨F, hF⟩ := hex
    refine ⟨some a, cap, (List.range len).map F, by simp [hxv], fun hp => ?_, by simp; omega⟩
    have hp' : 0 < len := by simpa using hp
    obtain ⟨b, off, rfl, hb⟩ := addr_plain (w := w) (a := a) (v := .int .i64 (F 0).1.base) (by
      have h0 := (hF 0 hp').1
      rw [Nat.zero_mul] at h0
      have e : ∀ a : Addr, a.add 0 = a := fun a => by unfold Addr.add; rfl
      rw [e, e] at h0
      rw [e]
      exact h0)
    refine ⟨b, off, rfl, hb, fun j o hj => ?_⟩
    obtain ⟨hj1, hj2⟩ := List.getElem?_eq_some_iff.1 hj
    have hj' : j < len := by simpa using hj1
    have : F j = o := by simpa using hj2
    subst this
    have h := hF j hj'
    simp only [add_at] at h
    exact h
end
end Go.Proofs.Ytdhakekndinbeaa
