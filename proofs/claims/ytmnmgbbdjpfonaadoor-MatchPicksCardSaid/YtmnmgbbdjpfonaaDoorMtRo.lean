/- match: what an argument that is a list of records reads as. No condition. -/
import Derived.Test.YtmnmgbbdjpfonaaDoorRecOpen
import Derived.Test.YtmnmgbbdjpfonaaDoorMtRs

/- What an argument that is a batch reads as. No condition. -/
namespace Go.Proofs.YtmnmgbbdjpfonaaDoor
open Go.RowKit Go.WideShapes Go.ChangeShapes Go.Deep Go.WideMaps Go.WideElems
set_option linter.unusedVariables false
section
variable {H : Type} {enc : TypeId × Value → H} {P : Program} {w : World} {base : Nat} {sp : Nat → Bool} {held : Bool}
theorem open_cells {t : TypeId} {fs : Array Field} {n : Nat} {cs' : List Value} {d : DataW H} {p : List MemPlace} (hs : P.underlying t = some (.struct fs)) (hone : oneCellFields P fs = true) (hl : cs'.length = fs.size)
    (ht' : DataW.trod enc P w base sp held n t cs' = some (d, p)) (hwe : Weighs P t d) :
    ∃ n2, ∀ (k : Nat) (f : Field), fs[k]? = some f → ∃ (x : Value) (z : DataW H × List MemPlace), cs'[k]? = some x ∧ DataW.trod enc P w base sp held n2 f.type [x] = some z ∧ Weighs P f.type z.1 := by
  obtain ⟨ys, n2, hn2, hy, hcl, hyl, hff⟩ := DataW.trod_struct hs ht'
  simp only [Prod.mk.injEq] at hy
  rw [hy.1] at hwe
  have hone' := hone_of hone
  refine ⟨n2, fun k f hk => ?_⟩
  obtain ⟨ho, hkk⟩ := hone' k f hk
  have q := hff k f hk
  rw [ho, hkk] at q
  have hkf : k < fs.size := (Array.getElem?_eq_some_iff.1 hk).1
  have e1 : (cs'.drop k).take 1 = [cs'[k]'(by omega)] := by
    rw [List.drop_eq_getElem_cons (by omega)]; rfl
  rw [e1] at q
  have hkl : k < ys.length := by rw [hyl]; exact hkf
  have hyk : ys[k]? = some ys[k] := List.getElem?_eq_getElem hkl
  rw [hyk] at q
  exact ⟨_, _, List.getElem?_eq_getElem (by omega), q, weighs_field hs hwe hk (d := ys[k].1) (by simp [hyk])⟩
end
section
variable {H : Type} {enc : TypeId × Value → H} {w : World} {base : Nat} {sp : Nat → Bool} {held : Bool}
set_option maxRecDepth 100000 in
theorem open_recs {n : Nat} {x : Value} {y : DataW H × List MemPlace} (h : DataW.trod enc Tryd.prog w base sp held n 33 [x] = some y) (hw : Weighs Tryd.prog 33 y.1) :
    ∃ A c, ∃ L : List RX, x = .slice A L.length c ∧ RsIn w A L ∧ L.length ≤ 140737488351232 := by
  rcases open_slice Tryd.underlying33 h with ⟨hcs, _⟩ | ⟨a, len, cap, m, n', D, Pl, hcs, _, hlc, _, hm, hx, hi⟩
  · have : x = .slice none 0 0 := by simpa using hcs
    exact ⟨none, 0, [], this, fun hp => by simp at hp, by simp⟩
  · have hxv : x = .slice (some a) len cap := by simpa using hcs
    have hlm : len ≤ m := by rw [hm]; split <;> omega
    have hD : y.1 = .slice ((List.range len).map D) ((List.range (m - len)).map fun j => D (len + j)) := by rw [hx]
    rw [hD] at hw
    have hlen := weighs_len Tryd.underlying33 hw
    rw [reach_47] at hlen
    simp only [List.length_map, List.length_range] at hlen
    have hl2 : len * 88 ≤ 140737488351232 := by
      refine Nat.le_trans ?_ hlen
      exact Nat.mul_le_mul (by omega) (by decide +kernel)
    have key : ∀ i, i < len → ∃ o : RX, (∀ j u, (recC o.1 o.2.1 o.2.2)[j]? = some u → w.cell? ((a.add (i * 7)).add j) = some u) ∧ RIn w o.1 o.2.1 o.2.2 := by
      intro i hil
      obtain ⟨cs', hc, ht'⟩ := hi i (by omega)
      rw [show Tryd.prog.cellsOf 27 = 7 by kernel_rfl] at hc
      obtain ⟨_, hcl2, hat⟩ := World.cells?_some hc
      have hwe : Weighs Tryd.prog 27 (D i) := weighs_elem Tryd.underlying33 hw (i := i) (by simp [hil])
      obtain ⟨n2, get⟩ := open_cells Tryd.underlying27 (by kernel_rfl) hcl2 ht' hwe
      obtain ⟨x0, y0, q0, t0, w0⟩ := get 0 _ rfl
      obtain ⟨x1, y1, q1, t1, w1⟩ := get 1 _ rfl
      obtain ⟨x2, y2, q2, t2, w2⟩ := get 2 _ rfl
      obtain ⟨x3, y3, q3, t3, w3⟩ := get 3 _ rfl
      obtain ⟨x4, y4, q4, t4, w4⟩ := get 4 _ rfl
      obtain ⟨x5, y5, q5, t5, w5⟩ := get 5 _ rfl
      obtain ⟨x6, y6, q6, t6, w6⟩ := get 6 _ rfl
      obtain ⟨n0, e0, _, _⟩ := DataW.trod_int Tryd.underlying3 t0
      obtain ⟨n1, e1, _, _⟩ := DataW.trod_int Tryd.underlying3 t1
      obtain ⟨n2, e2, _⟩ := DataW.trod_bool Tryd.underlying4 t2
      obtain ⟨n3, e3, z3, _⟩ := DataW.trod_string Tryd.underlying9 t3
      obtain ⟨n4, e4, _⟩ := DataW.trod_bool Tryd.underlying4 t4
      obtain ⟨n5, e5, z5, _⟩ := DataW.trod_string Tryd.underlying9 t5
      obtain ⟨A, c, hs, e6, hin, hl, hz⟩ := open_two Tryd.underlying25 Tryd.underlying42 (by kernel_rfl) (by kernel_rfl) (by decide +kernel) Tryd.underlying9 Tryd.underlying9 t6 w6
      rw [z3] at w3
      rw [z5] at w5
      have s3 := weighs_str w3
      have s5 := weighs_str w5
      obtain rfl : x0 = .int .i64 n0 := by simpa using e0
      obtain rfl : x1 = .int .i64 n1 := by simpa using e1
      obtain rfl : x2 = .bool n2 := by simpa using e2
      obtain rfl : x3 = .string n3 := by simpa using e3
      obtain rfl : x4 = .bool n4 := by simpa using e4
      obtain rfl : x5 = .string n5 := by simpa using e5
      subst e6
      refine ⟨(⟨n0, n1, n2, n3, n4, n5, hs⟩, A, c), fun j u hj => ?_, ⟨hin, hl, by simp only; omega, by simp only; omega, fun z hz' => by have := hz z hz'; omega⟩⟩
      have hj7 : j < 7 := (Array.getElem?_eq_some_iff.1 hj).1
      rw [hat j hj7]
      match j, hj7, hj with
      | 0, _, hj => rw [q0]; exact hj
      | 1, _, hj => rw [q1]; exact hj
      | 2, _, hj => rw [q2]; exact hj
      | 3, _, hj => rw [q3]; exact hj
      | 4, _, hj => rw [q4]; exact hj
      | 5, _, hj => rw [q5]; exact hj
      | 6, _, hj => rw [q6]; exact hj
    have hex : ∃ F : Nat → RX, ∀ i, i < len → (∀ j u, (recC (F i).1 (F i).2.1 (F i).2.2)[j]? = some u → w.cell? ((a.add (i * 7)).add j) = some u) ∧ RIn w (F i).1 (F i).2.1 (F i).2.2 := by
      classical
      refine ⟨fun i => if h : i < len then Classical.choose (key i h) else (⟨0, 0, false, ⟨#[]⟩, false, ⟨#[]⟩, []⟩, none, 0), fun i hil => ?_⟩
      simp only [dif_pos hil]
      exact Classical.choose_spec (key i hil)
    obtain ⟨F, hF⟩ := hex
    refine ⟨some a, cap, (List.range len).map F, by simp [hxv], fun hp => ?_, by simp; omega⟩
    have hp' : 0 < len := by simpa using hp
    obtain ⟨b, off, rfl, hb⟩ := addr_plain (w := w) (a := a) (v := .int .i64 (F 0).1.place) (by
      have h0 := (hF 0 hp').1 0 _ rfl
      rw [Nat.zero_mul] at h0
      have e : ∀ a : Addr, a.add 0 = a := fun a => by unfold Addr.add; rfl
      rw [e, e] at h0
      rw [e]
      exact h0)
    refine ⟨b, off, rfl, hb, fun j o hj => ?_⟩
    obtain ⟨hj1, hj2⟩ := List.getElem?_eq_some_iff.1 hj
    have hj' : j < len := by simpa using hj1
    have : F j = o := by simpa using hj2
    subst this
    obtain ⟨h1, h2⟩ := hF j hj'
    rw [add_at] at h1
    have g : ∀ i u, (recC (F j).1 (F j).2.1 (F j).2.2)[i]? = some u → w.cell? ⟨b, off + j * 7 + i, none⟩ = some u := fun i u hu => by
      have := h1 i u hu
      rwa [add_at] at this
    exact ⟨⟨g 0 _ rfl, g 1 _ rfl, g 2 _ rfl, g 3 _ rfl, g 4 _ rfl, g 5 _ rfl, g 6 _ rfl⟩, h2⟩
theorem open_recl {r : Reach} {b0 : Nat} {v : Value} {d : DataW H} {p : List MemPlace} (hv : Value.okWide Tryd.prog w r b0 33 v) (h : DataW.Trod enc Tryd.prog w base sp held 33 v d p) (hw : Weighs Tryd.prog 33 d) :
    ∃ (A : Option Addr) (c : Nat) (L : List RX), v = .slice A L.length c ∧ RsIn w A L ∧ L.length ≤ 140737488351232 := by
  obtain ⟨fuel, hf⟩ := h
  obtain ⟨A0, len0, cap0, rfl⟩ := okWide_slice Tryd.underlying33 hv
  exact open_recs (y := (d, p)) hf hw
end
end Go.Proofs.YtmnmgbbdjpfonaaDoor
