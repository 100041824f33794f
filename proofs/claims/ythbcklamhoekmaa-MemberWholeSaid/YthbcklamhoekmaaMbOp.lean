/- member: an argument that is a call, or a list of calls, or many. No condition. -/
import Derived.Test.YthbcklamhoekmaaAsOp
import Derived.Test.YthbcklamhoekmaaMbGi
namespace Go.Proofs.Ythbcklamhoekmaa
open Go.RowKit Go.WideShapes Go.ChangeShapes Go.Deep
set_option linter.unusedVariables false
section
variable {H : Type} {enc : TypeId × Value → H} {w : World} {base : Nat} {sp : Nat → Bool} {held : Bool}
set_option maxRecDepth 100000 in
theorem open_strsz {n : Nat} {x : Value} {y : DataW H × List MemPlace} (h : DataW.trod enc Try.prog w base sp held n 22 [x] = some y) (hw : Weighs Try.prog 22 y.1) :
    ∃ A c, ∃ L : List ByteArray, x = .slice A L.length c ∧ StrIn w A L ∧ L.length ≤ 140737488351232 ∧ ∀ s ∈ L, s.size ≤ 281474976710656 := by
  rcases open_slice Try.underlying22 h with ⟨hcs, _⟩ | ⟨a, len, cap, m, n', D, Pl, hcs, _, hlc, _, hm, hx, hi⟩
  · have : x = .slice none 0 0 := by simpa using hcs
    exact ⟨none, 0, [], this, fun hp => by simp at hp, by simp, by simp⟩
  · have hxv : x = .slice (some a) len cap := by simpa using hcs
    have hlm : len ≤ m := by rw [hm]; split <;> omega
    have hD : y.1 = .slice ((List.range len).map D) ((List.range (m - len)).map fun j => D (len + j)) := by rw [hx]
    rw [hD] at hw
    have hlen := weighs_len Try.underlying22 hw
    rw [reach_47] at hlen
    simp only [List.length_map, List.length_range] at hlen
    have hl2 : len * 16 ≤ 140737488351232 := by
      refine Nat.le_trans ?_ hlen
      exact Nat.mul_le_mul (by omega) (by decide +kernel)
    have key : ∀ i, i < len → ∃ o : ByteArray, w.cell? (a.add i) = some (.string o) ∧ o.size ≤ 281474976710656 := by
      intro i hil
      obtain ⟨cs', hc, ht'⟩ := hi i (by omega)
      rw [show Try.prog.cellsOf 9 = 1 by kernel_rfl] at hc
      obtain ⟨_, hcl2, hat⟩ := World.cells?_some hc
      obtain ⟨u, rfl⟩ : ∃ u, cs' = [u] := by
        match cs', hcl2 with
        | [u], _ => exact ⟨u, rfl⟩
      obtain ⟨o, e0, z0, _⟩ := DataW.trod_string Try.underlying9 ht'
      have hwe : Weighs Try.prog 9 (D i) := weighs_elem Try.underlying22 hw (i := i) (by simp [hil])
      have z1 : D i = _ := congrArg Prod.fst z0
      rw [z1] at hwe
      have s0 := weighs_str hwe
      refine ⟨o, ?_, by omega⟩
      have h0 := hat 0 (by omega)
      rw [Nat.mul_one, Go.Deep.add_add, Nat.add_zero] at h0
      rw [h0]
      simpa using e0
    have hex : ∃ F : Nat → ByteArray, ∀ i, i < len → w.cell? (a.add i) = some (.string (F i)) ∧ (F i).size ≤ 281474976710656 := by
      classical
      refine ⟨fun i => if h : i < len then Classical.choose (key i h) else ⟨#[]⟩, fun i hil => ?_⟩
      simp only [dif_pos hil]
      exact Classical.choose_spec (key i hil)
    obtain ⟨F, hF⟩ := hex
    refine ⟨some a, cap, (List.range len).map F, by simp [hxv], fun hp => ?_, by simp; omega, fun z hz => ?_⟩
    · have hp' : 0 < len := by simpa using hp
      obtain ⟨b, off, rfl, hb⟩ := addr_plain (w := w) (a := a) (v := .string (F 0)) (hF 0 hp').1
      refine ⟨b, off, rfl, hb, fun j o hj => ?_⟩
      obtain ⟨hj1, hj2⟩ := List.getElem?_eq_some_iff.1 hj
      have hj' : j < len := by simpa using hj1
      have : F j = o := by simpa using hj2
      subst this
      have := (hF j hj').1
      rwa [add_at] at this
    · simp only [List.mem_map, List.mem_range] at hz
      obtain ⟨i, hi', rfl⟩ := hz
      exact (hF i hi').2
/-- A call: what to do, whose, which topics, which generation, which partitions, how, when. -/
structure OM where
  do_ : Int
  m : Int
  T : List ByteArray
  TA : Option Addr
  tc : Nat
  gen : Int
  P : List TX
  PA : Option Addr
  pc : Nat
  rnd : Bool
  now : Int
instance : Inhabited OM := ⟨⟨0, 0, [], none, 0, 0, [], none, 0, false, 0⟩⟩
def omL (x : OM) : List Value := [.int .i64 x.do_, .int .i64 x.m, .slice x.TA x.T.length x.tc, .int .i64 x.gen, .slice x.PA x.P.length x.pc, .bool x.rnd, .int .i64 x.now]
/-- Texts and topics of an argument. -/
structure AOk (w : World) (T : List ByteArray) (TA : Option Addr) (P : List TX) (PA : Option Addr) : Prop where
  str : StrIn w TA T
  tl : T.length ≤ 140737488351232
  tz : ∀ s ∈ T, s.size ≤ 281474976710656
  top : TpIn w PA P
  pl : P.length ≤ 140737488351232
  pz : ∀ t ∈ P, t.1.size ≤ 281474976710656
theorem AOk.later {w w' : World} {T : List ByteArray} {TA : Option Addr} {P : List TX} {PA : Option Addr} (h : AOk w T TA P PA) (hb : Below w.heap.size w w') : AOk w' T TA P PA := ⟨h.str.below hb, h.tl, h.tz, h.top.below hb, h.pl, h.pz⟩
def OMk (w : World) (x : OM) : Prop := AOk w x.T x.TA x.P x.PA
theorem OMk.later {w w' : World} {x : OM} (h : OMk w x) (hb : Below w.heap.size w w') : OMk w' x := AOk.later h hb
def OmsIn (w : World) (A : Option Addr) (L : List OM) : Prop :=
  0 < L.length → ∃ b off, A = some ⟨b, off, none⟩ ∧ b < w.heap.size ∧ ∀ j x, L[j]? = some x → (∀ i, i < 7 → w.cell? ⟨b, off + j * 7 + i, none⟩ = (omL x)[i]?) ∧ OMk w x
theorem OmsIn.at_ {w w' : World} {A : Option Addr} {L : List OM} (h : OmsIn w A L) (hb : Below w.heap.size w w') {k : Nat} {x : OM} (hk : L[k]? = some x) : ∃ b off, A = some ⟨b, off, none⟩ ∧ b < w'.heap.size ∧ (∀ i, i < 7 → w'.cell? ⟨b, off + k * 7 + i, none⟩ = (omL x)[i]?) ∧ OMk w' x := by
  obtain ⟨b, off, hA, hl, hc⟩ := h (by have := (List.getElem?_eq_some_iff.1 hk).1; omega)
  obtain ⟨h0, h1⟩ := hc k x hk
  exact ⟨b, off, hA, Nat.lt_of_lt_of_le hl hb.size, fun i hi => (hb.cell (p := ⟨b, off + k * 7 + i, none⟩) hl).trans (h0 i hi), h1.later hb⟩
set_option maxRecDepth 100000 in
theorem om_of {n : Nat} {cs' : List Value} {d : DataW H} {p : List MemPlace} (hl : cs'.length = 7) (ht' : DataW.trod enc Try.prog w base sp held n 25 cs' = some (d, p)) (hwe : Weighs Try.prog 25 d) :
    ∃ x : OM, cs' = omL x ∧ OMk w x := by
  obtain ⟨n2, get⟩ := open_cells Try.underlying25 (by kernel_rfl) hl ht' hwe
  obtain ⟨x0, y0, q0, t0, _⟩ := get 0 _ rfl
  obtain ⟨x1, y1, q1, t1, _⟩ := get 1 _ rfl
  obtain ⟨x2, y2, q2, t2, w2⟩ := get 2 _ rfl
  obtain ⟨x3, y3, q3, t3, _⟩ := get 3 _ rfl
  obtain ⟨x4, y4, q4, t4, w4⟩ := get 4 _ rfl
  obtain ⟨x5, y5, q5, t5, _⟩ := get 5 _ rfl
  obtain ⟨x6, y6, q6, t6, _⟩ := get 6 _ rfl
  obtain ⟨n0, e0, _, _⟩ := DataW.trod_int Try.underlying3 t0
  obtain ⟨n1, e1, _, _⟩ := DataW.trod_int Try.underlying3 t1
  obtain ⟨TA, tc, T, e2, hT, hTl, hTz⟩ := open_strsz t2 w2
  obtain ⟨n3, e3, _, _⟩ := DataW.trod_int Try.underlying3 t3
  obtain ⟨PA, pc, P, e4, hP, hPl, hPz⟩ := open_tops0 t4 w4
  obtain ⟨b5, e5, _⟩ := DataW.trod_bool Try.underlying4 t5
  obtain ⟨n6, e6, _, _⟩ := DataW.trod_int Try.underlying3 t6
  obtain rfl : x0 = .int .i64 n0 := by simpa using e0
  obtain rfl : x1 = .int .i64 n1 := by simpa using e1
  obtain rfl : x3 = .int .i64 n3 := by simpa using e3
  obtain rfl : x5 = .bool b5 := by simpa using e5
  obtain rfl : x6 = .int .i64 n6 := by simpa using e6
  subst e2; subst e4
  refine ⟨⟨n0, n1, T, TA, tc, n3, P, PA, pc, b5, n6⟩, ?_, ⟨hT, hTl, hTz, hP, hPl, hPz⟩⟩
  match cs', hl, q0, q1, q2, q3, q4, q5, q6 with
  | [c0, c1, c2, c3, c4, c5, c6], _, q0, q1, q2, q3, q4, q5, q6 =>
    simp at q0 q1 q2 q3 q4 q5 q6
    rw [q0, q1, q2, q3, q4, q5, q6]
    rfl
set_option maxRecDepth 100000 in
theorem open_many {r : Reach} {b0 : Nat} {v : Value} {d : DataW H} {p : List MemPlace} (hv : Value.okWide Try.prog w r b0 58 v) (h : DataW.Trod enc Try.prog w base sp held 58 v d p) (hw : Weighs Try.prog 58 d) :
    ∃ (n : Int) (T : List ByteArray) (TA : Option Addr) (tc : Nat) (P : List TX) (PA : Option Addr) (pc : Nat) (rnd : Bool), v = .agg #[.int .i64 n, .slice TA T.length tc, .slice PA P.length pc, .bool rnd] ∧ AOk w T TA P PA := by
  obtain ⟨cs, rfl, hsz⟩ := okWide_struct Try.underlying58 hv
  obtain ⟨fuel, hf⟩ := h
  have hsz' : cs.toList.length = 4 := by rw [Array.length_toList]; exact hsz.trans (by kernel_rfl)
  obtain ⟨n2, get⟩ := open_cells Try.underlying58 (by kernel_rfl) hsz' hf hw
  obtain ⟨x0, y0, q0, t0, _⟩ := get 0 _ rfl
  obtain ⟨x2, y2, q2, t2, w2⟩ := get 1 _ rfl
  obtain ⟨x4, y4, q4, t4, w4⟩ := get 2 _ rfl
  obtain ⟨x5, y5, q5, t5, _⟩ := get 3 _ rfl
  obtain ⟨n0, e0, _, _⟩ := DataW.trod_int Try.underlying3 t0
  obtain ⟨TA, tc, T, e2, hT, hTl, hTz⟩ := open_strsz t2 w2
  obtain ⟨PA, pc, P, e4, hP, hPl, hPz⟩ := open_tops0 t4 w4
  obtain ⟨b5, e5, _⟩ := DataW.trod_bool Try.underlying4 t5
  obtain rfl : x0 = .int .i64 n0 := by simpa using e0
  obtain rfl : x5 = .bool b5 := by simpa using e5
  subst e2; subst e4
  refine ⟨n0, T, TA, tc, P, PA, pc, b5, ?_, ⟨hT, hTl, hTz, hP, hPl, hPz⟩⟩
  have hcs : cs = cs.toList.toArray := by simp
  rw [hcs]
  generalize cs.toList = l at *
  match l, hsz', q0, q2, q4, q5 with
  | [c0, c1, c2, c3], _, q0, q2, q4, q5 =>
    simp at q0 q2 q4 q5
    rw [q0, q2, q4, q5]
set_option maxRecDepth 100000 in
theorem open_op {r : Reach} {b0 : Nat} {v : Value} {d : DataW H} {p : List MemPlace} (hv : Value.okWide Try.prog w r b0 25 v) (h : DataW.Trod enc Try.prog w base sp held 25 v d p) (hw : Weighs Try.prog 25 d) :
    ∃ x : OM, v = .agg (omL x).toArray ∧ OMk w x := by
  obtain ⟨cs, rfl, hsz⟩ := okWide_struct Try.underlying25 hv
  obtain ⟨fuel, hf⟩ := h
  have hsz' : cs.size = 7 := hsz.trans (by kernel_rfl)
  obtain ⟨x, hx, hok⟩ := om_of (cs' := cs.toList) (by simpa using hsz') hf hw
  exact ⟨x, by rw [← hx], hok⟩
set_option maxRecDepth 100000 in
theorem open_ops {r : Reach} {b0 : Nat} {v : Value} {d : DataW H} {p : List MemPlace} (hv : Value.okWide Try.prog w r b0 44 v) (hh : DataW.Trod enc Try.prog w base sp held 44 v d p) (hw : Weighs Try.prog 44 d) :
    ∃ (A : Option Addr) (c : Nat) (L : List OM), v = .slice A L.length c ∧ OmsIn w A L := by
  obtain ⟨n, h⟩ := hh
  obtain ⟨A0, len0, cap0, rfl⟩ := okWide_slice Try.underlying44 hv
  rcases open_slice Try.underlying44 h with ⟨hcs, _⟩ | ⟨a, len, cap, m, n', D, Pl, hcs, _, hlc, _, hm, hx, hi⟩
  · have : Value.slice A0 len0 cap0 = .slice none 0 0 := by simpa [Value.cells] using hcs
    exact ⟨none, 0, [], this, fun hp => by simp at hp⟩
  · have hxv : Value.slice A0 len0 cap0 = .slice (some a) len cap := by simpa [Value.cells] using hcs
    have hlm : len ≤ m := by rw [hm]; split <;> omega
    have hD : d = .slice ((List.range len).map D) ((List.range (m - len)).map fun j => D (len + j)) := by simpa using congrArg Prod.fst hx
    rw [hD] at hw
    have key : ∀ i, i < len → ∃ x : OM, (∀ k, k < 7 → w.cell? ((a.add (i * 7)).add k) = (omL x)[k]?) ∧ OMk w x := by
      intro i hil
      obtain ⟨cs', hc, ht'⟩ := hi i (by omega)
      rw [show Try.prog.cellsOf 25 = 7 by kernel_rfl] at hc
      obtain ⟨_, hcl2, hat⟩ := World.cells?_some hc
      have hwe : Weighs Try.prog 25 (D i) := weighs_elem Try.underlying44 hw (i := i) (by simp [hil])
      obtain ⟨x, rfl, hok⟩ := om_of hcl2 ht' hwe
      exact ⟨x, fun k hk => hat k hk, hok⟩
    have hex : ∃ F : Nat → OM, ∀ i, i < len → (∀ k, k < 7 → w.cell? ((a.add (i * 7)).add k) = (omL (F i))[k]?) ∧ OMk w (F i) := by
      classical
      refine ⟨fun i => if h : i < len then Classical.choose (key i h) else default, fun i hil => ?_⟩
      simp only [dif_pos hil]
      exact Classical.choose_spec (key i hil)
    obtain ⟨F, hF⟩ := hex
    refine ⟨some a, cap, (List.range len).map F, by simp [hxv], fun hp => ?_⟩
    have hp' : 0 < len := by simpa using hp
    obtain ⟨b, off, rfl, hb⟩ := addr_plain (w := w) (a := a) (v := .int .i64 (F 0).do_) (by
      have h0 := (hF 0 hp').1 0 (by decide)
      rw [Nat.zero_mul] at h0
      have e : ∀ a : Addr, a.add 0 = a := fun a => by unfold Addr.add; rfl
      rw [e, e] at h0
      rw [e]
      exact h0)
    refine ⟨b, off, rfl, hb, fun j o hj => ?_⟩
    obtain ⟨hj1, hj2⟩ := List.getElem?_eq_some_iff.1 hj
    have hj' : j < len := by simpa using hj1
    have : F j = o := by simpa using hj2
    subst this
    obtain ⟨h0, h1⟩ := hF j hj'
    simp only [add_at] at h0
    exact ⟨h0, h1⟩
end
end Go.Proofs.Ythbcklamhoekmaa
