/- offsets: an argument that is a call, or a list of calls. No condition. -/
import Derived.Test.YtlkhfgkgngcakaaOpen
import Derived.Test.YtlkhfgkgngcakaaOfGet
namespace Go.Proofs.Ytlkhfgkgngcakaa
open Go.RowKit Go.WideShapes Go.ChangeShapes Go.Deep
set_option linter.unusedVariables false
section
variable {H : Type} {enc : TypeId × Value → H} {w : World} {base : Nat} {sp : Nat → Bool} {held : Bool}
section
variable {P : Program}
/-- A struct's cells, each read by itself. -/
theorem open_cells {t : TypeId} {fs : Array Field} {n : Nat} {cs' : List Value} {d : DataW H} {p : List MemPlace} (hs : P.underlying t = some (.struct fs)) (hone : oneCellFields P fs = true) (hl : cs'.length = fs.size)
    (ht' : DataW.trod enc P w base sp held n t cs' = some (d, p)) (hwe : Weighs P t d) :
    ∃ n2, ∀ (k : Nat) (f : Field), fs[k]? = some f → ∃ (x : Value) (z : DataW H × List MemPlace), cs'[k]? = some x ∧ DataW.trod enc P w base sp held n2 f.type [x] = some z ∧ Weighs P f.type z.1 := by
  obtain ⟨ys, n2, hn2, hy, hcl, hyl, hff⟩ := DataW.trod_struct hs ht'
  simp only [Prod.mk.injEq] at hy
  rw [hy.1] at hwe
  have hone' := hone_of hone
  refine ⟨n2, fun k f hk => ?_⟩
  obtain ⟨ho, hkk⟩ := hone' k f hk
  have q := hff k f hk
  rw [ho, hkk] at q
  have hkf : k < fs.size := (Array.getElem?_eq_some_iff.1 hk).1
  have e1 : (cs'.drop k).take 1 = [cs'[k]'(by omega)] := by
    rw [List.drop_eq_getElem_cons (by omega)]; rfl
  rw [e1] at q
  have hkl : k < ys.length := by rw [hyl]; exact hkf
  have hyk : ys[k]? = some ys[k] := List.getElem?_eq_getElem hkl
  rw [hyk] at q
  exact ⟨_, _, List.getElem?_eq_getElem (by omega), q, weighs_field hs hwe hk (d := ys[k].1) (by simp [hyk])⟩
end
/-- A call: what to do, of which key, how far, a record. -/
structure OO where
  do_ : Int
  k : KY
  at_ : Int
  r : Rec
  A : Option Addr
  c : Nat
instance : Inhabited OO := ⟨⟨0, ⟨⟨#[]⟩, ⟨#[]⟩, 0⟩, 0, recZero, none, 0⟩⟩
/-- A call's cells. -/
def ooL (x : OO) : List Value := [.int .i64 x.do_, .string x.k.g, .string x.k.t, .int .i64 x.k.i, .int .i64 x.at_, .int .i64 x.r.place, .int .i64 x.r.time, .bool x.r.bare, .string x.r.key, .bool x.r.gone, .string x.r.value, .slice x.A x.r.heads.length x.c]
structure OOk (w : World) (x : OO) : Prop where
  g : x.k.g.size ≤ 140737488351232
  t : x.k.t.size ≤ 140737488351232
  i : (Lit.int .i64 x.k.i).wf = true
  at_ : (Lit.int .i64 x.at_).wf = true
  rin : RIn w x.r x.A x.c
theorem OOk.later {w w' : World} {x : OO} (h : OOk w x) (hb : Below w.heap.size w w') : OOk w' x := ⟨h.g, h.t, h.i, h.at_, h.rin.below hb⟩
theorem OOk.ky {w : World} {x : OO} (h : OOk w x) : KyOk x.k := ⟨by have := h.g; unfold maxLen; omega, by have := h.t; unfold maxLen; omega, h.i⟩
def OosIn (w : World) (A : Option Addr) (L : List OO) : Prop :=
  0 < L.length → ∃ b off, A = some ⟨b, off, none⟩ ∧ b < w.heap.size ∧ ∀ j x, L[j]? = some x → (∀ i, i < 12 → w.cell? ⟨b, off + j * 12 + i, none⟩ = (ooL x)[i]?) ∧ OOk w x
theorem OosIn.at_ {w w' : World} {A : Option Addr} {L : List OO} (h : OosIn w A L) (hb : Below w.heap.size w w') {k : Nat} {x : OO} (hk : L[k]? = some x) : ∃ b off, A = some ⟨b, off, none⟩ ∧ b < w'.heap.size ∧ (∀ i, i < 12 → w'.cell? ⟨b, off + k * 12 + i, none⟩ = (ooL x)[i]?) ∧ OOk w' x := by
  obtain ⟨b, off, hA, hl, hc⟩ := h (by have := (List.getElem?_eq_some_iff.1 hk).1; omega)
  obtain ⟨h0, h1⟩ := hc k x hk
  exact ⟨b, off, hA, Nat.lt_of_lt_of_le hl hb.size, fun i hi => (hb.cell (p := ⟨b, off + k * 12 + i, none⟩) hl).trans (h0 i hi), h1.later hb⟩
set_option maxRecDepth 100000 in
theorem oo_of {n : Nat} {cs' : List Value} {d : DataW H} {p : List MemPlace} (hl : cs'.length = 12) (ht' : DataW.trod enc Try.prog w base sp held n 38 cs' = some (d, p)) (hwe : Weighs Try.prog 38 d) :
    ∃ x : OO, cs' = ooL x ∧ OOk w x := by
  obtain ⟨xs, n2, _, hy, _, hyl, hff⟩ := DataW.trod_struct Try.underlying38 ht'
  simp only [Prod.mk.injEq] at hy
  rw [hy.1] at hwe
  obtain ⟨y0, u0⟩ : ∃ y, xs[0]? = some y := ⟨_, List.getElem?_eq_getElem (by rw [hyl]; decide)⟩
  obtain ⟨y1, u1⟩ : ∃ y, xs[1]? = some y := ⟨_, List.getElem?_eq_getElem (by rw [hyl]; decide)⟩
  obtain ⟨y2, u2⟩ : ∃ y, xs[2]? = some y := ⟨_, List.getElem?_eq_getElem (by rw [hyl]; decide)⟩
  obtain ⟨y3, u3⟩ : ∃ y, xs[3]? = some y := ⟨_, List.getElem?_eq_getElem (by rw [hyl]; decide)⟩
  obtain ⟨y4, u4⟩ : ∃ y, xs[4]? = some y := ⟨_, List.getElem?_eq_getElem (by rw [hyl]; decide)⟩
  have t0 := (hff 0 _ rfl).trans u0
  have t1 := (hff 1 _ rfl).trans u1
  have t2 := (hff 2 _ rfl).trans u2
  have t3 := (hff 3 _ rfl).trans u3
  have t4 := (hff 4 _ rfl).trans u4
  have w1 := weighs_field Try.underlying38 hwe (j := 1) rfl (d := y1.1) (by simp [u1])
  have w2 := weighs_field Try.underlying38 hwe (j := 2) rfl (d := y2.1) (by simp [u2])
  have w4 := weighs_field Try.underlying38 hwe (j := 4) rfl (d := y4.1) (by simp [u4])
  match cs', hl, t0, t1, t2, t3, t4 with
  | [c0, c1, c2, c3, c4, c5, c6, c7, c8, c9, c10, c11], _, t0, t1, t2, t3, t4 =>
    obtain ⟨n0, e0, _, _⟩ := DataW.trod_int (t := 3) Try.underlying3 (show DataW.trod enc Try.prog w base sp held n2 3 [c0] = some y0 from t0)
    obtain ⟨g, e1, e1', _⟩ := DataW.trod_string (t := 9) Try.underlying9 (show DataW.trod enc Try.prog w base sp held n2 9 [c1] = some y1 from t1)
    obtain ⟨n3, get⟩ := open_cells (cs' := [c2, c3]) Try.underlying36 (by kernel_rfl) rfl (show DataW.trod enc Try.prog w base sp held n2 36 [c2, c3] = some y2 from t2) w2
    obtain ⟨a0, z0, q0, s0, v0⟩ := get 0 _ rfl
    obtain ⟨a1, z1, q1, s1, _⟩ := get 1 _ rfl
    obtain ⟨t, e2, e2', _⟩ := DataW.trod_string Try.underlying9 s0
    obtain ⟨i, e3, _, wf3⟩ := DataW.trod_int Try.underlying3 s1
    obtain ⟨n4, e4, _, wf4⟩ := DataW.trod_int (t := 3) Try.underlying3 (show DataW.trod enc Try.prog w base sp held n2 3 [c4] = some y3 from t3)
    obtain ⟨n5, gat⟩ := open_cells (cs' := [c5, c6, c7, c8, c9, c10, c11]) Try.underlying34 (by kernel_rfl) rfl (show DataW.trod enc Try.prog w base sp held n2 34 [c5, c6, c7, c8, c9, c10, c11] = some y4 from t4) w4
    obtain ⟨x0, b0, k0, m0, _⟩ := gat 0 _ rfl
    obtain ⟨x1, b1, k1, m1, _⟩ := gat 1 _ rfl
    obtain ⟨x2, b2, k2, m2, _⟩ := gat 2 _ rfl
    obtain ⟨x3, b3, k3, m3, o3⟩ := gat 3 _ rfl
    obtain ⟨x4, b4, k4, m4, _⟩ := gat 4 _ rfl
    obtain ⟨x5, b5, k5, m5, o5⟩ := gat 5 _ rfl
    obtain ⟨x6, b6, k6, m6, o6⟩ := gat 6 _ rfl
    obtain ⟨r0, f0, _, _⟩ := DataW.trod_int Try.underlying3 m0
    obtain ⟨r1, f1, _, _⟩ := DataW.trod_int Try.underlying3 m1
    obtain ⟨r2, f2, _⟩ := DataW.trod_bool Try.underlying4 m2
    obtain ⟨r3, f3, f3', _⟩ := DataW.trod_string Try.underlying9 m3
    obtain ⟨r4, f4, _⟩ := DataW.trod_bool Try.underlying4 m4
    obtain ⟨r5, f5, f5', _⟩ := DataW.trod_string Try.underlying9 m5
    obtain ⟨A, c, hs, f6, hin, hll, hz⟩ := open_two Try.underlying32 Try.underlying88 (by kernel_rfl) (by kernel_rfl) (by decide +kernel) Try.underlying9 Try.underlying9 m6 o6
    rw [e1'] at w1
    rw [e2'] at v0
    rw [f3'] at o3
    rw [f5'] at o5
    have sg := weighs_str w1
    have st := weighs_str v0
    have s3 := weighs_str o3
    have s5 := weighs_str o5
    simp at e0 e1 e2 e3 e4 f0 f1 f2 f3 f4 f5 q0 q1 k0 k1 k2 k3 k4 k5 k6
    refine ⟨⟨n0, ⟨g, t, i⟩, n4, ⟨r0, r1, r2, r3, r4, r5, hs⟩, A, c⟩, ?_, ⟨sg, st, wf3, wf4, ⟨hin, hll, by show r3.size ≤ _; omega, by show r5.size ≤ _; omega, fun z hz' => by have := hz z hz'; omega⟩⟩⟩
    unfold ooL
    rw [e0, e1, q0, e2, q1, e3, e4, k0, f0, k1, f1, k2, f2, k3, f3, k4, f4, k5, f5, k6, f6]
theorem ooL_len (x : OO) : (ooL x).length = 12 := rfl
set_option maxRecDepth 100000 in
theorem open_op {r : Reach} {b0 : Nat} {v : Value} {d : DataW H} {p : List MemPlace} (hv : Value.okWide Try.prog w r b0 38 v) (h : DataW.Trod enc Try.prog w base sp held 38 v d p) (hw : Weighs Try.prog 38 d) :
    ∃ x : OO, v = .agg (ooL x).toArray ∧ OOk w x := by
  obtain ⟨cs, rfl, hsz⟩ := okWide_struct Try.underlying38 hv
  obtain ⟨fuel, hf⟩ := h
  have hsz' : cs.size = 12 := hsz.trans (by kernel_rfl)
  obtain ⟨x, hx, hok⟩ := oo_of (cs' := cs.toList) (by simpa using hsz') hf hw
  exact ⟨x, by rw [← hx], hok⟩
set_option maxRecDepth 100000 in
theorem open_ops {r : Reach} {b0 : Nat} {v : Value} {d : DataW H} {p : List MemPlace} (hv : Value.okWide Try.prog w r b0 22 v) (hh : DataW.Trod enc Try.prog w base sp held 22 v d p) (hw : Weighs Try.prog 22 d) :
    ∃ (A : Option Addr) (c : Nat) (L : List OO), v = .slice A L.length c ∧ OosIn w A L := by
  obtain ⟨n, h⟩ := hh
  obtain ⟨A0, len0, cap0, rfl⟩ := okWide_slice Try.underlying22 hv
  rcases open_slice Try.underlying22 h with ⟨hcs, _⟩ | ⟨a, len, cap, m, n', D, Pl, hcs, _, hlc, _, hm, hx, hi⟩
  · have : Value.slice A0 len0 cap0 = .slice none 0 0 := by simpa [Value.cells] using hcs
    exact ⟨none, 0, [], this, fun hp => by simp at hp⟩
  · have hxv : Value.slice A0 len0 cap0 = .slice (some a) len cap := by simpa [Value.cells] using hcs
    have hlm : len ≤ m := by rw [hm]; split <;> omega
    have hD : d = .slice ((List.range len).map D) ((List.range (m - len)).map fun j => D (len + j)) := by simpa using congrArg Prod.fst hx
    rw [hD] at hw
    have key : ∀ i, i < len → ∃ x : OO, (∀ k, k < 12 → w.cell? ((a.add (i * 12)).add k) = (ooL x)[k]?) ∧ OOk w x := by
      intro i hil
      obtain ⟨cs', hc, ht'⟩ := hi i (by omega)
      rw [show Try.prog.cellsOf 38 = 12 by kernel_rfl] at hc
      obtain ⟨_, hcl2, hat⟩ := World.cells?_some hc
      have hwe : Weighs Try.prog 38 (D i) := weighs_elem Try.underlying22 hw (i := i) (by simp [hil])
      obtain ⟨x, rfl, hok⟩ := oo_of hcl2 ht' hwe
      exact ⟨x, fun k hk => hat k hk, hok⟩
    have hex : ∃ F : Nat → OO, ∀ i, i < len → (∀ k, k < 12 → w.cell? ((a.add (i * 12)).add k) = (ooL (F i))[k]?) ∧ OOk w (F i) := by
      classical
      refine ⟨fun i => if h : i < len then Classical.choose (key i h) else default, fun i hil => ?_⟩
      simp only [dif_pos hil]
      exact Classical.choose_spec (key i hil)
    obtain ⟨F, hF⟩ := hex
    refine ⟨some a, cap, (List.range len).map F, by simp [hxv], fun hp => ?_⟩
    have hp' : 0 < len := by simpa using hp
    obtain ⟨b, off, rfl, hb⟩ := addr_plain (w := w) (a := a) (v := .int .i64 (F 0).do_) (by
      have h0 := (hF 0 hp').1 0 (by decide)
      rw [Nat.zero_mul] at h0
      have e : ∀ a : Addr, a.add 0 = a := fun a => by unfold Addr.add; rfl
      rw [e, e] at h0
      rw [e]
      exact h0)
    refine ⟨b, off, rfl, hb, fun j o hj => ?_⟩
    obtain ⟨hj1, hj2⟩ := List.getElem?_eq_some_iff.1 hj
    have hj' : j < len := by simpa using hj1
    have : F j = o := by simpa using hj2
    subst this
    obtain ⟨h0, h1⟩ := hF j hj'
    simp only [add_at] at h0
    exact ⟨h0, h1⟩
end
end Go.Proofs.Ytlkhfgkgngcakaa
