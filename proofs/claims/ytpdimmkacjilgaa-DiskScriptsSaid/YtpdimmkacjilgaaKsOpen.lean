/- What an argument that is a script reads as. No condition. -/
import Derived.Test.YtpdimmkacjilgaaKsHolds
namespace Go.Proofs.Ytpdimmkacjilgaa
open Go.RowKit Go.WideShapes Go.ChangeShapes Go.Deep Go.WideMaps Go.WideElems
set_option linter.unusedVariables false
section
variable {H : Type} {enc : TypeId × Value → H} {P : Program} {w : World} {base : Nat} {sp : Nat → Bool} {held : Bool}
theorem weightsAll_mem {e : TypeId} : ∀ {l : List (DataW H)} {i : Nat} {d : DataW H}, l[i]? = some d → ∀ n ∈ d.weights P e, n ∈ DataW.weightsAll P e l
  | [], _, _, h, _, _ => by simp at h
  | x :: l, 0, d, h, n, hn => by
    have : x = d := by simpa using h
    subst this
    simp only [DataW.weightsAll, List.mem_append]
    exact .inl hn
  | x :: l, i + 1, d, h, n, hn => by
    simp only [DataW.weightsAll, List.mem_append]
    exact .inr (weightsAll_mem (by simpa using h) n hn)
theorem weighs_elem {t e : TypeId} {elems spare : List (DataW H)} (hu : P.underlying t = some (.slice e)) (h : Weighs P t (.slice elems spare)) {i : Nat} {d : DataW H} (hd : elems[i]? = some d) : Weighs P e d := fun n hn => by
  refine h n ?_
  simp only [DataW.weights, hu, List.mem_cons, List.mem_append]
  exact .inr (.inl (weightsAll_mem hd n hn))
theorem addr_plain {a : Addr} {v : Value} (h : w.cell? (a.add 0) = some v) : ∃ b off, a = ⟨b, off, none⟩ ∧ b < w.heap.size := by
  obtain ⟨b, off, spot⟩ := a
  have hspot : spot = none := by simpa [Addr.add] using World.cell?_spot h
  subst hspot
  refine ⟨b, off, rfl, ?_⟩
  rcases Nat.lt_or_ge b w.heap.size with hlt | hge
  · exact hlt
  · exfalso
    simp [Addr.add, World.cell?, Array.getElem?_eq_none hge] at h
end
/-- A call's five cells. -/
def OpCells (w : World) (a : Addr) (o : OpR) : Prop :=
  w.cell? (a.add 0) = some (.int .i64 o.do_) ∧ w.cell? (a.add 1) = some (.string o.name) ∧ w.cell? (a.add 2) = some (.string o.text) ∧ w.cell? (a.add 3) = some (.int .i64 o.n) ∧ w.cell? (a.add 4) = some (.slice o.at_ o.keep.length o.c)
/-- A script that came in. -/
def OpsIn (w : World) (A : Option Addr) (l : List OpR) : Prop :=
  0 < l.length → ∃ b off, A = some ⟨b, off, none⟩ ∧ b < w.heap.size ∧ ∀ j o, l[j]? = some o → OpCells w ⟨b, off + j * 5, none⟩ o ∧ OpIn w o
section
variable {H : Type} {enc : TypeId × Value → H} {w : World} {base : Nat} {sp : Nat → Bool} {held : Bool}
set_option maxRecDepth 100000 in
theorem open_ops {r : Reach} {b0 : Nat} {v : Value} {d : DataW H} {p : List MemPlace} (hv : Value.okWide Try.prog w r b0 22 v) (h : DataW.Trod enc Try.prog w base sp held 22 v d p) (hw : Weighs Try.prog 22 d) :
    ∃ A c l, v = .slice A (l : List OpR).length c ∧ OpsIn w A l := by
  obtain ⟨fuel, hf⟩ := h
  obtain ⟨A0, len0, cap0, rfl⟩ := okWide_slice Try.underlying22 hv
  have hf' : DataW.trod enc Try.prog w base sp held fuel 22 [.slice A0 len0 cap0] = some (d, p) := hf
  rcases open_slice Try.underlying22 hf' with ⟨hcs, _⟩ | ⟨a, len, cap, m, n', D, Pl, hcs, _, hlc, _, hm, hx, hi⟩
  · refine ⟨A0, cap0, [], ?_, fun hp => by simp at hp⟩
    simp at hcs
    rw [hcs.2.1]
    rfl
  · have hlm : len ≤ m := by rw [hm]; split <;> omega
    have hD : d = .slice ((List.range len).map D) ((List.range (m - len)).map fun j => D (len + j)) := by
      have := congrArg Prod.fst hx
      exact this
    rw [hD] at hw
    have key : ∀ i, i < len → ∃ o : OpR, OpCells w (a.add (i * 5)) o ∧ OpIn w o := by
      intro i hil
      obtain ⟨cs', hc, ht'⟩ := hi i (by omega)
      rw [show Try.prog.cellsOf 34 = 5 by kernel_rfl] at hc
      obtain ⟨ys, n2, hn2, hy, hcl, hyl, hff⟩ := DataW.trod_struct Try.underlying34 ht'
      obtain ⟨_, hcl2, hat⟩ := World.cells?_some hc
      simp only [Prod.mk.injEq] at hy
      have hwe : Weighs Try.prog 34 (D i) := weighs_elem Try.underlying22 hw (i := i) (by simp [hil])
      rw [hy.1] at hwe
      have hone : oneCellFields Try.prog _ = true := (by kernel_rfl : oneCellFields Try.prog #[{ name := "Do", type := 3, offset := 0, embedded := false, tag := "", pkgPath := "", byteOffset := 0 }, { name := "Name", type := 9, offset := 1, embedded := false, tag := "", pkgPath := "", byteOffset := 8 }, { name := "Text", type := 9, offset := 2, embedded := false, tag := "", pkgPath := "", byteOffset := 24 }, { name := "N", type := 3, offset := 3, embedded := false, tag := "", pkgPath := "", byteOffset := 40 }, { name := "Keep", type := 32, offset := 4, embedded := false, tag := "", pkgPath := "", byteOffset := 48 }] = true)
      have hone' := hone_of hone
      have hcl5 : cs'.length = 5 := hcl2
      have get : ∀ (k : Nat) (f : Field), (#[{ name := "Do", type := 3, offset := 0, embedded := false, tag := "", pkgPath := "", byteOffset := 0 }, { name := "Name", type := 9, offset := 1, embedded := false, tag := "", pkgPath := "", byteOffset := 8 }, { name := "Text", type := 9, offset := 2, embedded := false, tag := "", pkgPath := "", byteOffset := 24 }, { name := "N", type := 3, offset := 3, embedded := false, tag := "", pkgPath := "", byteOffset := 40 }, { name := "Keep", type := 32, offset := 4, embedded := false, tag := "", pkgPath := "", byteOffset := 48 }] : Array Field)[k]? = some f → k < 5 → ∃ (x : Value) (z : DataW H × List MemPlace), w.cell? ((a.add (i * 5)).add k) = some x ∧ ys[k]? = some z ∧ DataW.trod enc Try.prog w base sp held n2 f.type [x] = some z := by
        intro k f hk hk5
        obtain ⟨ho, hkk⟩ := hone' k f hk
        have q := hff k f hk
        rw [ho, hkk] at q
        have e1 : (cs'.drop k).take 1 = [cs'[k]'(by omega)] := by
          rw [List.drop_eq_getElem_cons (by omega)]; rfl
        rw [e1] at q
        have hkl : k < ys.length := by rw [hyl]; exact hk5
        have hyk : ys[k]? = some ys[k] := List.getElem?_eq_getElem hkl
        rw [hyk] at q
        have hcell := hat k hk5
        have h3 : cs'[k]? = some (cs'[k]'(by omega)) := List.getElem?_eq_getElem (by omega)
        exact ⟨_, _, by rw [hcell, h3], hyk, q⟩
      have wf := fun (k : Nat) (f : Field) hk (z : DataW H × List MemPlace) (hz : ys[k]? = some z) => weighs_field Try.underlying34 hwe (j := k) (f := f) hk (d := z.1) (by simp [hz])
      obtain ⟨x0, y0, q0, u0, t0⟩ := get 0 _ rfl (by decide)
      obtain ⟨x1, y1, q1, u1, t1⟩ := get 1 _ rfl (by decide)
      obtain ⟨x2, y2, q2, u2, t2⟩ := get 2 _ rfl (by decide)
      obtain ⟨x3, y3, q3, u3, t3⟩ := get 3 _ rfl (by decide)
      obtain ⟨x4, y4, q4, u4, t4⟩ := get 4 _ rfl (by decide)
      have w1 := wf 1 _ rfl _ u1
      have w2 := wf 2 _ rfl _ u2
      obtain ⟨n0, e0, _, _⟩ := DataW.trod_int Try.underlying3 t0
      obtain ⟨n1, e1, z1, _⟩ := DataW.trod_string Try.underlying9 t1
      obtain ⟨n2', e2, z2, _⟩ := DataW.trod_string Try.underlying9 t2
      obtain ⟨n3, e3, _, r3⟩ := DataW.trod_int Try.underlying3 t3
      obtain ⟨A, c, z, e4, hin⟩ := intRow_in Try.underlying32 Try.underlying3 (by kernel_rfl) t4
      rw [z1] at w1
      rw [z2] at w2
      obtain rfl : x0 = .int .i64 n0 := by simpa using e0
      obtain rfl : x1 = .string n1 := by simpa using e1
      obtain rfl : x2 = .string n2' := by simpa using e2
      obtain rfl : x3 = .int .i64 n3 := by simpa using e3
      subst e4
      obtain ⟨k1, k2⟩ := keep_of hin
      exact ⟨⟨n0, n1, n2', n3, A, c, z⟩, ⟨q0, q1, q2, q3, q4⟩, ⟨weighs_str w1, weighs_str w2, wf_range r3, k1, k2⟩⟩
    have hxv : A0 = some a ∧ len0 = len := by
      simp at hcs
      exact ⟨hcs.1, hcs.2.1⟩
    obtain ⟨rfl, rfl⟩ := hxv
    have hex : ∃ F : Nat → OpR, ∀ i, i < len0 → OpCells w (a.add (i * 5)) (F i) ∧ OpIn w (F i) := by
      classical
      refine ⟨fun i => if h : i < len0 then Classical.choose (key i h) else ⟨0, ⟨#[]⟩, ⟨#[]⟩, 0, none, 0, []⟩, fun i hil => ?_⟩
      simp only [dif_pos hil]
      exact Classical.choose_spec (key i hil)
    obtain ⟨F, hF⟩ := hex
    refine ⟨some a, cap0, (List.range len0).map F, by simp, fun hp => ?_⟩
    have hp' : 0 < len0 := by simpa using hp
    obtain ⟨b, off, rfl, hb⟩ := addr_plain (w := w) (a := a) (v := .int .i64 (F 0).do_) (by
      have h0 := (hF 0 hp').1.1
      rw [Nat.zero_mul] at h0
      have e : ∀ a : Addr, a.add 0 = a := fun a => by unfold Addr.add; rfl
      rw [e, e] at h0
      rw [e]
      exact h0)
    refine ⟨b, off, rfl, hb, fun j o hj => ?_⟩
    obtain ⟨hj1, hj2⟩ := List.getElem?_eq_some_iff.1 hj
    have hj' : j < len0 := by simpa using hj1
    have : F j = o := by simpa using hj2
    subst this
    have := hF j hj'
    rw [addr_at] at this
    exact this
end
end Go.Proofs.Ytpdimmkacjilgaa
