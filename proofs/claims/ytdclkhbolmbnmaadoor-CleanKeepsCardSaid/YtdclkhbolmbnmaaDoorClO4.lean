/- clean: what an argument of batches, two numbers and a key reads as. No condition. -/
import Derived.Test.YtdclkhbolmbnmaaDoorClOb
import Derived.Test.YtdclkhbolmbnmaaDoorClA
import Derived.Test.YtdclkhbolmbnmaaDoorClPrd
namespace Go.Proofs.YtdclkhbolmbnmaaDoor
open Go.RowKit Go.WideShapes Go.ChangeShapes Go.Deep
set_option linter.unusedVariables false
section
variable {H : Type} {enc : TypeId × Value → H} {w : World} {base : Nat} {sp : Nat → Bool} {held : Bool}
set_option maxRecDepth 100000 in
theorem bats_in {n : Nat} {v : Value} {y : DataW H × List MemPlace} (h : DataW.trod enc Tryd.prog w base sp held n 22 [v] = some y) (hw : Weighs Tryd.prog 22 y.1) :
    ∃ (A : Option Addr) (c : Nat) (L : List BX), v = .slice A L.length c ∧ BsIn w A L ∧ ∀ x ∈ L, x.2.1.length ≤ 140737488351232 ∧ Pr.i64B x.1.prod := by
  rcases open_slice Tryd.underlying22 h with ⟨hcs, _⟩ | ⟨a, len, cap, m, n', D, Pl, hcs, _, hlc, _, hm, hx, hi⟩
  · have : v = .slice none 0 0 := by simpa using hcs
    exact ⟨none, 0, [], this, fun hp => by simp at hp, fun x hx => by cases hx⟩
  · have hlm : len ≤ m := by rw [hm]; split <;> omega
    have hxv : v = .slice (some a) len cap := by simpa using hcs
    have hD : y.1 = .slice ((List.range len).map D) ((List.range (m - len)).map fun j => D (len + j)) := by rw [hx]
    rw [hD] at hw
    have key : ∀ i, i < len → ∃ o : BX, (∀ j u, (bnC o.1 (.slice o.2.2.1 o.2.1.length o.2.2.2))[j]? = some u → w.cell? ((a.add (i * 6)).add j) = some u) ∧ RsIn w o.2.2.1 o.2.1 ∧ (o.2.1.length ≤ 140737488351232 ∧ Pr.i64B o.1.prod) := by
      intro i hil
      obtain ⟨cs', hc, ht'⟩ := hi i (by omega)
      rw [show Tryd.prog.cellsOf 29 = 6 by kernel_rfl] at hc
      obtain ⟨_, hcl2, hat⟩ := World.cells?_some hc
      have hwe : Weighs Tryd.prog 29 (D i) := weighs_elem Tryd.underlying22 hw (i := i) (by simp [hil])
      obtain ⟨n2, get⟩ := open_cells Tryd.underlying29 (by kernel_rfl) hcl2 ht' hwe
      obtain ⟨x0, y0, q0, t0, w0⟩ := get 0 _ rfl
      obtain ⟨x1, y1, q1, t1, w1⟩ := get 1 _ rfl
      obtain ⟨x2, y2, q2, t2, w2⟩ := get 2 _ rfl
      obtain ⟨x3, y3, q3, t3, w3⟩ := get 3 _ rfl
      obtain ⟨x4, y4, q4, t4, w4⟩ := get 4 _ rfl
      obtain ⟨x5, y5, q5, t5, w5⟩ := get 5 _ rfl
      obtain ⟨n0, e0, _, _⟩ := DataW.trod_int Tryd.underlying3 t0
      obtain ⟨n1, e1, _, _⟩ := DataW.trod_int Tryd.underlying3 t1
      obtain ⟨n2, e2, _, wf2⟩ := DataW.trod_int Tryd.underlying3 t2
      obtain ⟨n3, e3, _, _⟩ := DataW.trod_int Tryd.underlying3 t3
      obtain ⟨n4, e4, _, _⟩ := DataW.trod_int Tryd.underlying3 t4
      obtain ⟨A, c, L, e5, hin, hl⟩ := open_recs t5 w5
      obtain rfl : x0 = .int .i64 n0 := by simpa using e0
      obtain rfl : x1 = .int .i64 n1 := by simpa using e1
      obtain rfl : x2 = .int .i64 n2 := by simpa using e2
      obtain rfl : x3 = .int .i64 n3 := by simpa using e3
      obtain rfl : x4 = .int .i64 n4 := by simpa using e4
      subst e5
      refine ⟨(⟨n0, n1, n2, n3, n4⟩, L, A, c), fun j u hj => ?_, hin, hl, i64_of_wf wf2⟩
      have hj6 : j < 6 := (Array.getElem?_eq_some_iff.1 hj).1
      rw [hat j hj6]
      match j, hj6, hj with
      | 0, _, hj => rw [q0]; exact hj
      | 1, _, hj => rw [q1]; exact hj
      | 2, _, hj => rw [q2]; exact hj
      | 3, _, hj => rw [q3]; exact hj
      | 4, _, hj => rw [q4]; exact hj
      | 5, _, hj => rw [q5]; exact hj
    have hex : ∃ F : Nat → BX, ∀ i, i < len → (∀ j u, (bnC (F i).1 (.slice (F i).2.2.1 (F i).2.1.length (F i).2.2.2))[j]? = some u → w.cell? ((a.add (i * 6)).add j) = some u) ∧ RsIn w (F i).2.2.1 (F i).2.1 ∧ ((F i).2.1.length ≤ 140737488351232 ∧ Pr.i64B (F i).1.prod) := by
      classical
      refine ⟨fun i => if h : i < len then Classical.choose (key i h) else (⟨0, 0, 0, 0, 0⟩, [], none, 0), fun i hil => ?_⟩
      simp only [dif_pos hil]
      exact Classical.choose_spec (key i hil)
    obtain ⟨F, hF⟩ := hex
    refine ⟨some a, cap, (List.range len).map F, by simp [hxv], fun hp => ?_, fun x hx => ?_⟩
    · have hp' : 0 < len := by simpa using hp
      obtain ⟨b, off, rfl, hb⟩ := addr_plain (w := w) (a := a) (v := .int .i64 (F 0).1.base) (by
        have h0 := (hF 0 hp').1 0 _ rfl
        rw [Nat.zero_mul] at h0
        have e : ∀ a : Addr, a.add 0 = a := fun a => by unfold Addr.add; rfl
        rw [e, e] at h0
        rw [e]
        exact h0)
      refine ⟨b, off, rfl, hb, fun j o hj => ?_⟩
      obtain ⟨hj1, hj2⟩ := List.getElem?_eq_some_iff.1 hj
      have hj' : j < len := by simpa using hj1
      have : F j = o := by simpa using hj2
      subst this
      obtain ⟨h1, h2, _⟩ := hF j hj'
      rw [add_at] at h1
      have g : ∀ i u, (bnC (F j).1 (.slice (F j).2.2.1 (F j).2.1.length (F j).2.2.2))[i]? = some u → w.cell? ⟨b, off + j * 6 + i, none⟩ = some u := fun i u hu => by
        have := h1 i u hu
        rwa [add_at] at this
      exact ⟨⟨g 0 _ rfl, g 1 _ rfl, g 2 _ rfl, g 3 _ rfl, g 4 _ rfl, g 5 _ rfl⟩, h2⟩
    · obtain ⟨i, hi', rfl⟩ := List.mem_map.1 hx
      exact (hF i (by simpa using hi')).2.2
set_option maxRecDepth 100000 in
theorem open_four {r : Reach} {b0 : Nat} {v : Value} {d : DataW H} {p : List MemPlace} (hv : Value.okWide Tryd.prog w r b0 24 v) (h : DataW.Trod enc Tryd.prog w base sp held 24 v d p) (hw : Weighs Tryd.prog 24 d) :
    ∃ (A : Option Addr) (c : Nat) (L : List BX) (upto before : Int) (key : ByteArray), v = .agg #[.slice A L.length c, .int .i64 upto, .int .i64 before, .string key] ∧ BsIn w A L ∧ (∀ x ∈ L, x.2.1.length ≤ 140737488351232 ∧ Pr.i64B x.1.prod) ∧ key.size ≤ 140737488351232 := by
  obtain ⟨cs, ys, n, rfl, hsz, rfl, hyl, hf⟩ := open_fields Tryd.underlying24 (by kernel_rfl) (by kernel_rfl) hv h
  have wf := fun (j : Nat) (f : Field) hf (y : DataW H × List MemPlace) (hy : ys[j]? = some y) => weighs_field Tryd.underlying24 hw (j := j) (f := f) hf (d := y.1) (by simp [hy])
  obtain ⟨x0, y0, q0, u0, t0⟩ := hf 0 _ rfl
  obtain ⟨x1, y1, q1, u1, t1⟩ := hf 1 _ rfl
  obtain ⟨x2, y2, q2, u2, t2⟩ := hf 2 _ rfl
  obtain ⟨x3, y3, q3, u3, t3⟩ := hf 3 _ rfl
  have w0 := wf 0 _ rfl _ u0
  have w3 := wf 3 _ rfl _ u3
  obtain ⟨A, c, L, rfl, hin, hl⟩ := bats_in t0 w0
  obtain ⟨n1, e1, _, _⟩ := DataW.trod_int Tryd.underlying3 t1
  obtain ⟨n2, e2, _, _⟩ := DataW.trod_int Tryd.underlying3 t2
  obtain ⟨n3, e3, z3, _⟩ := DataW.trod_string Tryd.underlying9 t3
  rw [z3] at w3
  have s3 := weighs_str w3
  obtain rfl : x1 = .int .i64 n1 := by simpa using e1
  obtain rfl : x2 = .int .i64 n2 := by simpa using e2
  obtain rfl : x3 = .string n3 := by simpa using e3
  refine ⟨A, c, L, n1, n2, n3, ?_, hin, hl, s3⟩
  congr 1
  obtain ⟨l⟩ := cs
  match l, hsz with
  | [a, b, c2, d2], _ =>
    simp at q0 q1 q2 q3
    subst q0 q1 q2 q3
    rfl
end
end Go.Proofs.YtdclkhbolmbnmaaDoor
