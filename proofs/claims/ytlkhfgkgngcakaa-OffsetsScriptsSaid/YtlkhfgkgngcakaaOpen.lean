/- What an argument that is a struct, or a slice of structs, reads as; and how great its texts are. Plain words. No condition. -/
import Derived.Test.YtlkhfgkgngcakaaRecBase
import Derived.OpenShut
import Derived.ProofKit
import Derived.SizedLaws
import Derived.Deep.Slices
import Derived.Deep.Fields
namespace Go.Proofs.Ytlkhfgkgngcakaa
open Go.RowKit Go.WideShapes Go.ChangeShapes Go.Deep
set_option linter.unusedVariables false
section
variable {H : Type} {enc : TypeId × Value → H} {P : Program} {w : World} {base : Nat} {sp : Nat → Bool} {held : Bool}
/-- None of a datum's parts is greater than what may be read. -/
def Weighs (P : Program) (t : TypeId) (d : DataW H) : Prop := ∀ n ∈ d.weights P t, n ≤ reachBytes
theorem reach_47 : reachBytes = 140737488351232 := by decide
theorem weighs_param {ts : List TypeId} {ds : List (DataW H)} (h : (DataW.weightsEach P ts ds).all (· ≤ reachBytes) = true) {j : Nat} {t : TypeId} {d : DataW H} (ht : ts[j]? = some t) (hd : ds[j]? = some d) : Weighs P t d := fun n hn => by
  have := List.all_eq_true.1 h _ (DataW.weights_mem_each ht hd n hn)
  simpa using this
theorem weighs_field {t : TypeId} {fs : Array Field} {parts : List (DataW H)} (hs : P.underlying t = some (.struct fs)) (h : Weighs P t (.agg parts)) {j : Nat} {f : Field} {d : DataW H} (hf : fs[j]? = some f) (hd : parts[j]? = some d) : Weighs P f.type d := fun n hn => by
  refine h n ?_
  simp only [DataW.weights, hs]
  refine DataW.weights_mem_each (j := j) ?_ hd n hn
  simp [hf]
theorem weightsAll_mem {e : TypeId} : ∀ {l : List (DataW H)} {i : Nat} {d : DataW H}, l[i]? = some d → ∀ n ∈ d.weights P e, n ∈ DataW.weightsAll P e l
  | [], _, _, h, _, _ => by simp at h
  | x :: l, 0, d, h, n, hn => by
    have : x = d := by simpa using h
    subst this
    simp only [DataW.weightsAll, List.mem_append]
    exact .inl hn
  | x :: l, i + 1, d, h, n, hn => by
    simp only [DataW.weightsAll, List.mem_append]
    exact .inr (weightsAll_mem (by simpa using h) n hn)
theorem weighs_elem {t e : TypeId} {elems spare : List (DataW H)} (hu : P.underlying t = some (.slice e)) (h : Weighs P t (.slice elems spare)) {i : Nat} {d : DataW H} (hd : elems[i]? = some d) : Weighs P e d := fun n hn => by
  refine h n ?_
  simp only [DataW.weights, hu, List.mem_cons, List.mem_append]
  exact .inr (.inl (weightsAll_mem hd n hn))
theorem weighs_len {t e : TypeId} {elems spare : List (DataW H)} (hu : P.underlying t = some (.slice e)) (h : Weighs P t (.slice elems spare)) : (elems.length + spare.length) * P.bytesOf e ≤ reachBytes := by
  refine h _ ?_
  simp only [DataW.weights, hu, List.mem_cons]
  exact .inl trivial
theorem weighs_str {t : TypeId} {s : ByteArray} (h : Weighs P t (.lit (.string s.data.toList) : DataW H)) : s.size ≤ 140737488351232 := by
  have := h s.size (by simp [DataW.weights])
  rwa [reach_47] at this
/-- A struct of one-cell fields, each read by itself. -/
theorem open_fields {r : Reach} {b0 : Nat} {t : TypeId} {fs : Array Field} {v : Value} {d : DataW H} {p : List MemPlace} (hs : P.underlying t = some (.struct fs)) (hone : oneCellFields P fs = true) (hC : P.cellsOf t = fs.size)
    (hv : Value.okWide P w r b0 t v) (h : DataW.Trod enc P w base sp held t v d p) :
    ∃ (cs : Array Value) (ys : List (DataW H × List MemPlace)) (n : Nat), v = .agg cs ∧ cs.size = fs.size ∧ d = .agg (ys.map (·.1)) ∧ ys.length = fs.size ∧
      ∀ (j : Nat) (f : Field), fs[j]? = some f → ∃ (x : Value) (y : DataW H × List MemPlace), cs[j]? = some x ∧ ys[j]? = some y ∧ DataW.trod enc P w base sp held n f.type [x] = some y := by
  obtain ⟨cs, rfl, hsz⟩ := okWide_struct hs hv
  obtain ⟨fuel, hf⟩ := h
  obtain ⟨xs, n, _, hx, hl, hlen, hg⟩ := DataW.trod_struct hs hf
  simp only [Prod.mk.injEq] at hx
  refine ⟨cs, xs, n, rfl, hsz.trans hC, hx.1, hlen, fun j f hj => ?_⟩
  obtain ⟨ho, hk⟩ := hone_of hone j f hj
  have hjl : j < fs.size := (Array.getElem?_eq_some_iff.1 hj).1
  have hcl : j < cs.size := by rw [hsz, hC]; exact hjl
  have h1 := hg j f hj
  rw [ho, hk] at h1
  have e1 : ((Value.agg cs).cells.toList.drop j).take 1 = [cs[j]] := by
    show (cs.toList.drop j).take 1 = _
    rw [List.drop_eq_getElem_cons (by simpa using hcl)]
    simp
  rw [e1] at h1
  have hjx : j < xs.length := by rw [hlen]; exact hjl
  exact ⟨cs[j], xs[j], by simp [hcl], List.getElem?_eq_getElem hjx, h1.trans (List.getElem?_eq_getElem hjx)⟩
theorem addr_plain {a : Addr} {v : Value} (h : w.cell? (a.add 0) = some v) : ∃ b off, a = ⟨b, off, none⟩ ∧ b < w.heap.size := by
  obtain ⟨b, off, spot⟩ := a
  have hspot : spot = none := by simpa [Addr.add] using World.cell?_spot h
  subst hspot
  refine ⟨b, off, rfl, ?_⟩
  rcases Nat.lt_or_ge b w.heap.size with hlt | hge
  · exact hlt
  · exfalso
    simp [Addr.add, World.cell?, Array.getElem?_eq_none hge] at h
theorem add_at (b off i : Nat) : (⟨b, off, none⟩ : Addr).add i = ⟨b, off + i, none⟩ := by unfold Addr.add; split <;> simp_all
/-- A slice of structs of two texts. -/
theorem open_two {t e : TypeId} {f0 f1 : Field} {n : Nat} {x : Value} {y : DataW H × List MemPlace} (ht : P.underlying t = some (.slice e)) (he : P.underlying e = some (.struct #[f0, f1])) (hone : oneCellFields P #[f0, f1] = true)
    (hC : P.cellsOf e = 2) (hB : 32 ≤ P.bytesOf e) (h0 : P.underlying f0.type = some .string) (h1 : P.underlying f1.type = some .string) (h : DataW.trod enc P w base sp held n t [x] = some y) (hw : Weighs P t y.1) :
    ∃ A c, ∃ hs : List Hd, x = .slice A hs.length c ∧ HIn w A hs ∧ hs.length ≤ 140737488351232 ∧ ∀ z ∈ hs, z.1.size ≤ 140737488351232 ∧ z.2.size ≤ 140737488351232 := by
  rcases open_slice ht h with ⟨hcs, _⟩ | ⟨a, len, cap, m, n', D, Pl, hcs, _, hlc, _, hm, hx, hi⟩
  · have : x = .slice none 0 0 := by simpa using hcs
    exact ⟨none, 0, [], this, HIn.nil _ _, by simp, by simp⟩
  · have hxv : x = .slice (some a) len cap := by simpa using hcs
    have hlm : len ≤ m := by rw [hm]; split <;> omega
    have hD : y.1 = .slice ((List.range len).map D) ((List.range (m - len)).map fun j => D (len + j)) := by rw [hx]
    rw [hD] at hw
    have hlen := weighs_len ht hw
    rw [reach_47] at hlen
    simp only [List.length_map, List.length_range] at hlen
    have hl2 : len * 32 ≤ 140737488351232 := by
      refine Nat.le_trans ?_ hlen
      exact Nat.mul_le_mul (by omega) hB
    have key : ∀ i, i < len → ∃ s1 s2 : ByteArray, w.cell? (a.add (i * 2)) = some (.string s1) ∧ w.cell? (a.add (i * 2 + 1)) = some (.string s2) ∧ s1.size ≤ 140737488351232 ∧ s2.size ≤ 140737488351232 := by
      intro i hil
      obtain ⟨cs', hc, ht'⟩ := hi i (by omega)
      rw [hC] at hc
      obtain ⟨ys, n2, hn2, hy, hcl, hyl, hf⟩ := DataW.trod_struct he ht'
      obtain ⟨_, hcl2, hat⟩ := World.cells?_some hc
      simp only [Prod.mk.injEq] at hy
      have hwe : Weighs P e (D i) := weighs_elem ht hw (i := i) (by simp [hil])
      rw [hy.1] at hwe
      have hone' := hone_of hone
      have get : ∀ (j : Nat) (f : Field), (#[f0, f1] : Array Field)[j]? = some f → P.underlying f.type = some .string → j < 2 → ∃ s : ByteArray, w.cell? (a.add (i * 2 + j)) = some (.string s) ∧ s.size ≤ 140737488351232 := by
        intro j f hj hu hj2
        obtain ⟨ho, hk⟩ := hone' j f hj
        have q := hf j f hj
        rw [ho, hk] at q
        have e1 : (cs'.drop j).take 1 = [cs'[j]'(by omega)] := by
          rw [List.drop_eq_getElem_cons (by omega)]; rfl
        rw [e1] at q
        have hjl : j < ys.length := by rw [hyl]; exact hj2
        have hyj : ys[j]? = some ys[j] := List.getElem?_eq_getElem hjl
        rw [hyj] at q
        obtain ⟨s, hs1, hs2, _⟩ := DataW.trod_string hu q
        have hcell := hat j hj2
        have h3 : cs'[j]? = some (cs'[j]'(by omega)) := List.getElem?_eq_getElem (by omega)
        refine ⟨s, ?_, ?_⟩
        · rw [← Go.Deep.add_add, hcell, h3]
          simpa using hs1
        · have hwf := weighs_field he hwe hj (d := ys[j].1) (by simp [hyj])
          rw [hs2] at hwf
          exact weighs_str hwf
      obtain ⟨s1, q1, z1⟩ := get 0 f0 rfl h0 (by decide)
      obtain ⟨s2, q2, z2⟩ := get 1 f1 rfl h1 (by decide)
      exact ⟨s1, s2, q1, q2, z1, z2⟩
    have hex : ∃ F : Nat → Hd, ∀ i, i < len → w.cell? (a.add (i * 2)) = some (.string (F i).1) ∧ w.cell? (a.add (i * 2 + 1)) = some (.string (F i).2) ∧ (F i).1.size ≤ 140737488351232 ∧ (F i).2.size ≤ 140737488351232 := by
      refine ⟨fun i => if h : i < len then (Classical.choose (key i h), Classical.choose (Classical.choose_spec (key i h))) else (⟨#[]⟩, ⟨#[]⟩), fun i hil => ?_⟩
      simp only [dif_pos hil]
      exact Classical.choose_spec (Classical.choose_spec (key i hil))
    obtain ⟨F, hF⟩ := hex
    refine ⟨some a, cap, (List.range len).map F, by rw [hxv]; simp, fun hp => ?_, by simp; omega, fun z hz => ?_⟩
    · have hp' : 0 < len := by simpa using hp
      obtain ⟨b, off, rfl, hb⟩ := addr_plain (by have h0 := (hF 0 hp').1; rwa [Nat.zero_mul] at h0)
      refine ⟨b, off, rfl, hb, fun j z hz => ?_⟩
      obtain ⟨hj, hz2⟩ := List.getElem?_eq_some_iff.1 hz
      have hj' : j < len := by simpa using hj
      obtain ⟨q1, q2, _⟩ := hF j hj'
      rw [add_at] at q1 q2
      have : F j = z := by simpa using hz2
      subst this
      exact ⟨q1, by rw [Nat.add_assoc]; exact q2⟩
    · simp only [List.mem_map, List.mem_range] at hz
      obtain ⟨i, hi', rfl⟩ := hz
      exact ⟨(hF i hi').2.2.1, (hF i hi').2.2.2⟩
end
end Go.Proofs.Ytlkhfgkgngcakaa
