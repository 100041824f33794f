/- idem: an argument that is a list of calls. No condition. -/
import Derived.Test.YtdhakekndinbeaaImRb
namespace Go.Proofs.Ytdhakekndinbeaa
open Go.RowKit Go.WideShapes Go.ChangeShapes Go.Deep
set_option linter.unusedVariables false
section
variable {H : Type} {enc : TypeId × Value → H} {w : World} {base : Nat} {sp : Nat → Bool} {held : Bool}
/-- A call: what to do, of which batch, of which number. -/
abbrev OX := Int × BX × Int
def OxAt (w : World) (b off : Nat) (x : OX) : Prop := w.cell? ⟨b, off, none⟩ = some (.int .i64 x.1) ∧ BxAt w b (off + 1) x.2.1 ∧ w.cell? ⟨b, off + 7, none⟩ = some (.int .i64 x.2.2) ∧ i64B x.2.2
def OxsIn (w : World) (A : Option Addr) (L : List OX) : Prop :=
  0 < L.length → ∃ b off, A = some ⟨b, off, none⟩ ∧ b < w.heap.size ∧ ∀ j x, L[j]? = some x → OxAt w b (off + j * 8) x
theorem OxsIn.at_ {w w' : World} {A : Option Addr} {L : List OX} (h : OxsIn w A L) (hb : Below w.heap.size w w') {k : Nat} {x : OX} (hk : L[k]? = some x) : ∃ b off, A = some ⟨b, off, none⟩ ∧ b < w'.heap.size ∧ OxAt w' b (off + k * 8) x := by
  obtain ⟨b, off, hA, hl, hc⟩ := h (by have := (List.getElem?_eq_some_iff.1 hk).1; omega)
  obtain ⟨h0, ⟨a0, a1, a2, a3, a4, a5⟩, h7, h8⟩ := hc k x hk
  have go : ∀ (o : Nat) (v : Value), w.cell? ⟨b, o, none⟩ = some v → w'.cell? ⟨b, o, none⟩ = some v := fun o v h => (hb.cell (p := ⟨b, o, none⟩) hl).trans h
  exact ⟨b, off, hA, Nat.lt_of_lt_of_le hl hb.size, go _ _ h0, ⟨go _ _ a0, go _ _ a1, go _ _ a2, go _ _ a3, go _ _ a4, go _ _ a5⟩, go _ _ h7, h8⟩
theorem i64_of_wf {n : Int} (h : (Lit.int .i64 n).wf = true) : i64B n := i64_bd h
set_option maxRecDepth 100000 in
theorem open_ops {r : Reach} {b0 : Nat} {v : Value} {d : DataW H} {p : List MemPlace} (hv : Value.okWide Try.prog w r b0 22 v) (hh : DataW.Trod enc Try.prog w base sp held 22 v d p) (hw : Weighs Try.prog 22 d) :
    ∃ (A : Option Addr) (c : Nat) (L : List OX), v = .slice A L.length c ∧ OxsIn w A L := by
  obtain ⟨n, h⟩ := hh
  obtain ⟨A0, len0, cap0, rfl⟩ := okWide_slice Try.underlying22 hv
  rcases open_slice Try.underlying22 h with ⟨hcs, _⟩ | ⟨a, len, cap, m, n', D, Pl, hcs, _, hlc, _, hm, hx, hi⟩
  · have : Value.slice A0 len0 cap0 = .slice none 0 0 := by simpa [Value.cells] using hcs
    exact ⟨none, 0, [], this, fun hp => by simp at hp⟩
  · have hxv : Value.slice A0 len0 cap0 = .slice (some a) len cap := by simpa [Value.cells] using hcs
    have hlm : len ≤ m := by rw [hm]; split <;> omega
    have hD : d = .slice ((List.range len).map D) ((List.range (m - len)).map fun j => D (len + j)) := by simpa using congrArg Prod.fst hx
    rw [hD] at hw
    have key : ∀ i, i < len → ∃ x : OX, w.cell? ((a.add (i * 8)).add 0) = some (.int .i64 x.1) ∧ w.cell? ((a.add (i * 8)).add 1) = some (.int .i64 x.2.1.1.base) ∧ w.cell? ((a.add (i * 8)).add 2) = some (.int .i64 x.2.1.1.span) ∧ w.cell? ((a.add (i * 8)).add 3) = some (.int .i64 x.2.1.1.prod) ∧ w.cell? ((a.add (i * 8)).add 4) = some (.int .i64 x.2.1.1.epoch) ∧ w.cell? ((a.add (i * 8)).add 5) = some (.int .i64 x.2.1.1.seq) ∧ w.cell? ((a.add (i * 8)).add 6) = some (.slice x.2.1.2.1 x.2.1.2.2.1 x.2.1.2.2.2) ∧ w.cell? ((a.add (i * 8)).add 7) = some (.int .i64 x.2.2) ∧ i64B x.2.2 := by
      intro i hil
      obtain ⟨cs', hc, ht'⟩ := hi i (by omega)
      rw [show Try.prog.cellsOf 33 = 8 by kernel_rfl] at hc
      obtain ⟨_, hcl2, hat⟩ := World.cells?_some hc
      have hwe : Weighs Try.prog 33 (D i) := weighs_elem Try.underlying22 hw (i := i) (by simp [hil])
      obtain ⟨xs, n2, _, hy, _, hyl, hff⟩ := DataW.trod_struct Try.underlying33 ht'
      simp only [Prod.mk.injEq] at hy
      rw [hy.1] at hwe
      obtain ⟨y0, u0⟩ : ∃ y, xs[0]? = some y := ⟨_, List.getElem?_eq_getElem (by rw [hyl]; decide)⟩
      obtain ⟨y1, u1⟩ : ∃ y, xs[1]? = some y := ⟨_, List.getElem?_eq_getElem (by rw [hyl]; decide)⟩
      obtain ⟨y2, u2⟩ : ∃ y, xs[2]? = some y := ⟨_, List.getElem?_eq_getElem (by rw [hyl]; decide)⟩
      have t0 := (hff 0 _ rfl).trans u0
      have t1 := (hff 1 _ rfl).trans u1
      have t2 := (hff 2 _ rfl).trans u2
      have w1 := weighs_field Try.underlying33 hwe (j := 1) rfl (d := y1.1) (by simp [u1])
      match cs', hcl2, hat, t0, t1, t2 with
      | [c0, c1, c2, c3, c4, c5, c6, c7], _, hat, t0, t1, t2 =>
        obtain ⟨n0, e0, _, _⟩ := DataW.trod_int (t := 3) Try.underlying3 (show DataW.trod enc Try.prog w base sp held n2 3 [c0] = some y0 from t0)
        obtain ⟨n7, e7, _, wf7⟩ := DataW.trod_int (t := 3) Try.underlying3 (show DataW.trod enc Try.prog w base sp held n2 3 [c7] = some y2 from t2)
        obtain rfl : c0 = .int .i64 n0 := by simpa using e0
        obtain rfl : c7 = .int .i64 n7 := by simpa using e7
        obtain ⟨n3, get⟩ := open_cells (cs' := [c1, c2, c3, c4, c5, c6]) Try.underlying31 (by kernel_rfl) rfl (show DataW.trod enc Try.prog w base sp held n2 31 [c1, c2, c3, c4, c5, c6] = some y1 from t1) w1
        obtain ⟨x0, z0, q0, s0, _⟩ := get 0 _ rfl
        obtain ⟨x1, z1, q1, s1, _⟩ := get 1 _ rfl
        obtain ⟨x2, z2, q2, s2, _⟩ := get 2 _ rfl
        obtain ⟨x3, z3, q3, s3, _⟩ := get 3 _ rfl
        obtain ⟨x4, z4, q4, s4, _⟩ := get 4 _ rfl
        obtain ⟨x5, z5, q5, s5, _⟩ := get 5 _ rfl
        obtain ⟨x, rfl, rfl, rfl, rfl, rfl, rfl⟩ := batch_of s0 s1 s2 s3 s4 s5
        simp at q0 q1 q2 q3 q4 q5
        subst q0 q1 q2 q3 q4 q5
        exact ⟨(n0, x, n7), hat 0 (by decide), hat 1 (by decide), hat 2 (by decide), hat 3 (by decide), hat 4 (by decide), hat 5 (by decide), hat 6 (by decide), hat 7 (by decide), i64_of_wf wf7⟩
    have hex : ∃ F : Nat → OX, ∀ i, i < len → w.cell? ((a.add (i * 8)).add 0) = some (.int .i64 (F i).1) ∧ w.cell? ((a.add (i * 8)).add 1) = some (.int .i64 (F i).2.1.1.base) ∧ w.cell? ((a.add (i * 8)).add 2) = some (.int .i64 (F i).2.1.1.span) ∧ w.cell? ((a.add (i * 8)).add 3) = some (.int .i64 (F i).2.1.1.prod) ∧ w.cell? ((a.add (i * 8)).add 4) = some (.int .i64 (F i).2.1.1.epoch) ∧ w.cell? ((a.add (i * 8)).add 5) = some (.int .i64 (F i).2.1.1.seq) ∧ w.cell? ((a.add (i * 8)).add 6) = some (.slice (F i).2.1.2.1 (F i).2.1.2.2.1 (F i).2.1.2.2.2) ∧ w.cell? ((a.add (i * 8)).add 7) = some (.int .i64 (F i).2.2) ∧ i64B (F i).2.2 := by
      classical
      refine ⟨fun i => if h : i < len then Classical.choose (key i h) else (0, (⟨0, 0, 0, 0, 0⟩, none, 0, 0), 0), fun i hil => ?_⟩
      simp only [dif_pos hil]
      exact Classical.choose_spec (key i hil)
    obtain ⟨F, hF⟩ := hex
    refine ⟨some a, cap, (List.range len).map F, by simp [hxv], fun hp => ?_⟩
    have hp' : 0 < len := by simpa using hp
    obtain ⟨b, off, rfl, hb⟩ := addr_plain (w := w) (a := a) (v := .int .i64 (F 0).1) (by
      have h0 := (hF 0 hp').1
      rw [Nat.zero_mul] at h0
      have e : ∀ a : Addr, a.add 0 = a := fun a => by unfold Addr.add; rfl
      rw [e, e] at h0
      rw [e]
      exact h0)
    refine ⟨b, off, rfl, hb, fun j o hj => ?_⟩
    obtain ⟨hj1, hj2⟩ := List.getElem?_eq_some_iff.1 hj
    have hj' : j < len := by simpa using hj1
    have : F j = o := by simpa using hj2
    subst this
    obtain ⟨h0, h1, h2, h3, h4, h5, h6, h7, h8⟩ := hF j hj'
    simp only [add_at] at h0 h1 h2 h3 h4 h5 h6 h7
    exact ⟨h0, ⟨h1, h2, h3, h4, h5, h6⟩, h7, h8⟩
end
end Go.Proofs.Ytdhakekndinbeaa
