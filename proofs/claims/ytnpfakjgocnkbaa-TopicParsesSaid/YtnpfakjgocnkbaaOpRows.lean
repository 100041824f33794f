import Derived.OpenShut
import Derived.ProofKit
import Derived.SizedLaws
import Derived.Deep.Slices
import Derived.Deep.Fields
import Derived.Test.YtnpfakjgocnkbaaMem
import Derived.KernelRfl
/- What an argument that is a struct, or a slice of structs, reads as; and how great its texts are. Plain words. No condition. -/
namespace Go.Proofs.Ytnpfakjgocnkbaa
open Go.RowKit Go.WideShapes Go.ChangeShapes Go.Deep
set_option linter.unusedVariables false
section
variable {H : Type} {enc : TypeId × Value → H} {P : Program} {w : World} {base : Nat} {sp : Nat → Bool} {held : Bool}
/-- None of a datum's parts is greater than what may be read. -/
def Weighs (P : Program) (t : TypeId) (d : DataW H) : Prop := ∀ n ∈ d.weights P t, n ≤ reachBytes
theorem reach_47 : reachBytes = 140737488351232 := by decide
theorem weighs_param {ts : List TypeId} {ds : List (DataW H)} (h : (DataW.weightsEach P ts ds).all (· ≤ reachBytes) = true) {j : Nat} {t : TypeId} {d : DataW H} (ht : ts[j]? = some t) (hd : ds[j]? = some d) : Weighs P t d := fun n hn => by
  have := List.all_eq_true.1 h _ (DataW.weights_mem_each ht hd n hn)
  simpa using this
theorem weighs_field {t : TypeId} {fs : Array Field} {parts : List (DataW H)} (hs : P.underlying t = some (.struct fs)) (h : Weighs P t (.agg parts)) {j : Nat} {f : Field} {d : DataW H} (hf : fs[j]? = some f) (hd : parts[j]? = some d) : Weighs P f.type d := fun n hn => by
  refine h n ?_
  simp only [DataW.weights, hs]
  refine DataW.weights_mem_each (j := j) ?_ hd n hn
  simp [hf]
theorem weightsAll_mem {e : TypeId} : ∀ {l : List (DataW H)} {i : Nat} {d : DataW H}, l[i]? = some d → ∀ n ∈ d.weights P e, n ∈ DataW.weightsAll P e l
  | [], _, _, h, _, _ => by simp at h
  | x :: l, 0, d, h, n, hn => by
    have : x = d := by simpa using h
    subst this
    simp only [DataW.weightsAll, List.mem_append]
    exact .inl hn
  | x :: l, i + 1, d, h, n, hn => by
    simp only [DataW.weightsAll, List.mem_append]
    exact .inr (weightsAll_mem (by simpa using h) n hn)
theorem weighs_elem {t e : TypeId} {elems spare : List (DataW H)} (hu : P.underlying t = some (.slice e)) (h : Weighs P t (.slice elems spare)) {i : Nat} {d : DataW H} (hd : elems[i]? = some d) : Weighs P e d := fun n hn => by
  refine h n ?_
  simp only [DataW.weights, hu, List.mem_cons, List.mem_append]
  exact .inr (.inl (weightsAll_mem hd n hn))
theorem weighs_len {t e : TypeId} {elems spare : List (DataW H)} (hu : P.underlying t = some (.slice e)) (h : Weighs P t (.slice elems spare)) : (elems.length + spare.length) * P.bytesOf e ≤ reachBytes := by
  refine h _ ?_
  simp only [DataW.weights, hu, List.mem_cons]
  exact .inl trivial
theorem weighs_str {t : TypeId} {s : ByteArray} (h : Weighs P t (.lit (.string s.data.toList) : DataW H)) : s.size ≤ 140737488351232 := by
  have := h s.size (by simp [DataW.weights])
  rwa [reach_47] at this
/-- A struct of one-cell fields, each read by itself. -/
theorem open_fields {r : Reach} {b0 : Nat} {t : TypeId} {fs : Array Field} {v : Value} {d : DataW H} {p : List MemPlace} (hs : P.underlying t = some (.struct fs)) (hone : oneCellFields P fs = true) (hC : P.cellsOf t = fs.size)
    (hv : Value.okWide P w r b0 t v) (h : DataW.Trod enc P w base sp held t v d p) :
    ∃ (cs : Array Value) (ys : List (DataW H × List MemPlace)) (n : Nat), v = .agg cs ∧ cs.size = fs.size ∧ d = .agg (ys.map (·.1)) ∧ ys.length = fs.size ∧
      ∀ (j : Nat) (f : Field), fs[j]? = some f → ∃ (x : Value) (y : DataW H × List MemPlace), cs[j]? = some x ∧ ys[j]? = some y ∧ DataW.trod enc P w base sp held n f.type [x] = some y := by
  obtain ⟨cs, rfl, hsz⟩ := okWide_struct hs hv
  obtain ⟨fuel, hf⟩ := h
  obtain ⟨xs, n, _, hx, hl, hlen, hg⟩ := DataW.trod_struct hs hf
  simp only [Prod.mk.injEq] at hx
  refine ⟨cs, xs, n, rfl, hsz.trans hC, hx.1, hlen, fun j f hj => ?_⟩
  obtain ⟨ho, hk⟩ := hone_of hone j f hj
  have hjl : j < fs.size := (Array.getElem?_eq_some_iff.1 hj).1
  have hcl : j < cs.size := by rw [hsz, hC]; exact hjl
  have h1 := hg j f hj
  rw [ho, hk] at h1
  have e1 : ((Value.agg cs).cells.toList.drop j).take 1 = [cs[j]] := by
    show (cs.toList.drop j).take 1 = _
    rw [List.drop_eq_getElem_cons (by simpa using hcl)]
    simp
  rw [e1] at h1
  have hjx : j < xs.length := by rw [hlen]; exact hjl
  exact ⟨cs[j], xs[j], by simp [hcl], List.getElem?_eq_getElem hjx, h1.trans (List.getElem?_eq_getElem hjx)⟩
theorem addr_plain {a : Addr} {v : Value} (h : w.cell? (a.add 0) = some v) : ∃ b off, a = ⟨b, off, none⟩ ∧ b < w.heap.size := by
  obtain ⟨b, off, spot⟩ := a
  have hspot : spot = none := by simpa [Addr.add] using World.cell?_spot h
  subst hspot
  refine ⟨b, off, rfl, ?_⟩
  rcases Nat.lt_or_ge b w.heap.size with hlt | hge
  · exact hlt
  · exfalso
    simp [Addr.add, World.cell?, Array.getElem?_eq_none hge] at h
theorem add_at (b off i : Nat) : (⟨b, off, none⟩ : Addr).add i = ⟨b, off + i, none⟩ := by unfold Addr.add; split <;> simp_all
/-- A slice of structs of two texts. -/
theorem open_cells {t : TypeId} {fs : Array Field} {n : Nat} {cs' : List Value} {d : DataW H} {p : List MemPlace} (hs : P.underlying t = some (.struct fs)) (hone : oneCellFields P fs = true) (hl : cs'.length = fs.size)
    (ht' : DataW.trod enc P w base sp held n t cs' = some (d, p)) (hwe : Weighs P t d) :
    ∃ n2, ∀ (k : Nat) (f : Field), fs[k]? = some f → ∃ (x : Value) (z : DataW H × List MemPlace), cs'[k]? = some x ∧ DataW.trod enc P w base sp held n2 f.type [x] = some z ∧ Weighs P f.type z.1 := by
  obtain ⟨ys, n2, hn2, hy, hcl, hyl, hff⟩ := DataW.trod_struct hs ht'
  simp only [Prod.mk.injEq] at hy
  rw [hy.1] at hwe
  have hone' := hone_of hone
  refine ⟨n2, fun k f hk => ?_⟩
  obtain ⟨ho, hkk⟩ := hone' k f hk
  have q := hff k f hk
  rw [ho, hkk] at q
  have hkf : k < fs.size := (Array.getElem?_eq_some_iff.1 hk).1
  have e1 : (cs'.drop k).take 1 = [cs'[k]'(by omega)] := by
    rw [List.drop_eq_getElem_cons (by omega)]; rfl
  rw [e1] at q
  have hkl : k < ys.length := by rw [hyl]; exact hkf
  have hyk : ys[k]? = some ys[k] := List.getElem?_eq_getElem hkl
  rw [hyk] at q
  exact ⟨_, _, List.getElem?_eq_getElem (by omega), q, weighs_field hs hwe hk (d := ys[k].1) (by simp [hyk])⟩
/-- A slice of structs of one-cell fields: each element as it is read by itself. -/
theorem open_rows {t e : TypeId} {fs : Array Field} (ht : P.underlying t = some (.slice e)) (he : P.underlying e = some (.struct fs)) (hone : oneCellFields P fs = true) (hC : P.cellsOf e = fs.size) (hpos : 0 < fs.size)
    {α : Type} [Inhabited α] (R : (Nat → Option Value) → α → Prop)
    (hk : ∀ (n : Nat) (cs' : List Value) (d : DataW H) (p : List MemPlace), cs'.length = fs.size → DataW.trod enc P w base sp held n e cs' = some (d, p) → Weighs P e d → ∃ x : α, ∀ f : Nat → Option Value, (∀ i, i < fs.size → f i = cs'[i]?) → R f x)
    {r : Reach} {b0 : Nat} {v : Value} {d : DataW H} {p : List MemPlace} (hv : Value.okWide P w r b0 t v) (hh : DataW.Trod enc P w base sp held t v d p) (hw : Weighs P t d) :
    ∃ (A : Option Addr) (c : Nat) (L : List α), v = .slice A L.length c ∧ (0 < L.length → ∃ b off, A = some ⟨b, off, none⟩ ∧ b < w.heap.size ∧ ∀ j x, L[j]? = some x → R (fun i => w.cell? ⟨b, off + j * fs.size + i, none⟩) x) := by
  obtain ⟨n, h⟩ := hh
  obtain ⟨A0, len0, cap0, rfl⟩ := okWide_slice ht hv
  rcases open_slice ht h with ⟨hcs, _⟩ | ⟨a, len, cap, m, n', D, Pl, hcs, _, hlc, _, hm, hx, hi⟩
  · have : Value.slice A0 len0 cap0 = .slice none 0 0 := by simpa [Value.cells] using hcs
    exact ⟨none, 0, [], this, fun hp => by simp at hp⟩
  · have hxv : Value.slice A0 len0 cap0 = .slice (some a) len cap := by simpa [Value.cells] using hcs
    have hlm : len ≤ m := by rw [hm]; split <;> omega
    have hD : d = .slice ((List.range len).map D) ((List.range (m - len)).map fun j => D (len + j)) := by simpa using congrArg Prod.fst hx
    rw [hD] at hw
    have key : ∀ i, i < len → ∃ x : α, (∃ y, w.cell? ((a.add (i * fs.size)).add 0) = some y) ∧ R (fun k => w.cell? ((a.add (i * fs.size)).add k)) x := by
      intro i hil
      obtain ⟨cs', hc, ht'⟩ := hi i (by omega)
      rw [hC] at hc
      obtain ⟨_, hcl2, hat⟩ := World.cells?_some hc
      have hwe : Weighs P e (D i) := weighs_elem ht hw (i := i) (by simp [hil])
      obtain ⟨x, hx⟩ := hk n' cs' _ _ hcl2 ht' hwe
      refine ⟨x, ⟨cs'[0]'(by omega), ?_⟩, hx _ fun k hk => hat k hk⟩
      rw [hat 0 hpos]
      exact List.getElem?_eq_getElem (by omega)
    have hex : ∃ F : Nat → α, ∀ i, i < len → (∃ y, w.cell? ((a.add (i * fs.size)).add 0) = some y) ∧ R (fun k => w.cell? ((a.add (i * fs.size)).add k)) (F i) := by
      classical
      refine ⟨fun i => if h : i < len then Classical.choose (key i h) else default, fun i hil => ?_⟩
      simp only [dif_pos hil]
      exact Classical.choose_spec (key i hil)
    obtain ⟨F, hF⟩ := hex
    refine ⟨some a, cap, (List.range len).map F, by simp [hxv], fun hp => ?_⟩
    have hp' : 0 < len := by simpa using hp
    obtain ⟨y, hy⟩ := (hF 0 hp').1
    obtain ⟨b, off, rfl, hb⟩ := addr_plain (w := w) (a := a) (v := y) (by
      rw [Nat.zero_mul] at hy
      have e : ∀ a : Addr, a.add 0 = a := fun a => by unfold Addr.add; rfl
      rw [e, e] at hy
      rw [e]
      exact hy)
    refine ⟨b, off, rfl, hb, fun j o hj => ?_⟩
    obtain ⟨hj1, hj2⟩ := List.getElem?_eq_some_iff.1 hj
    have hj' : j < len := by simpa using hj1
    have : F j = o := by simpa using hj2
    subst this
    have h2 := (hF j hj').2
    simp only [add_at] at h2
    exact h2
end
end Go.Proofs.Ytnpfakjgocnkbaa
