/- expr: the rows of kids that a reader lays. No condition of its own. -/
import Derived.Test.YtneholfghffpfaaExGr
import Derived.Laws.AppendOwn
namespace Go.Proofs.Ytneholfghffpfaa
open Go.RowKit
set_option linter.unusedVariables false
/-- A kid that has been read, and where its own kids lie. -/
abbrev Kd := Tr × Option Addr × Nat
def kidC (k : Kd) : List Value := [.int .i64 k.1.op, .string k.1.name, .string k.1.value, .slice k.2.1 k.1.kids.length k.2.2]
def kidCells (ks : List Kd) : List Value := ks.flatMap kidC
theorem kidCells_len (ks : List Kd) : (kidCells ks).length = ks.length * 4 := by
  induction ks with
  | nil => rfl
  | cons h ks ih => simp [kidCells, kidC] at ih ⊢; omega
theorem kidCells_snoc (ks : List Kd) (k : Kd) : kidCells (ks ++ [k]) = kidCells ks ++ kidC k := by simp [kidCells]
theorem kidCells_at {ks : List Kd} {j : Nat} {k : Kd} (hj : ks[j]? = some k) : (kidCells ks)[j * 4]? = some (.int .i64 k.1.op) ∧ (kidCells ks)[j * 4 + 1]? = some (.string k.1.name) ∧ (kidCells ks)[j * 4 + 2]? = some (.string k.1.value) ∧ (kidCells ks)[j * 4 + 3]? = some (.slice k.2.1 k.1.kids.length k.2.2) := by
  induction ks generalizing j with
  | nil => simp at hj
  | cons x ks ih =>
    cases j with
    | zero =>
      have : x = k := by simpa using hj
      subst this
      exact ⟨rfl, rfl, rfl, rfl⟩
    | succ j =>
      have := ih (j := j) (by simpa using hj)
      have e : kidCells (x :: ks) = kidC x ++ kidCells ks := rfl
      rw [e, show (j + 1) * 4 = (j * 4) + 4 by omega, show j * 4 + 4 + 1 = (j * 4 + 1) + 4 by omega, show j * 4 + 4 + 2 = (j * 4 + 2) + 4 by omega, show j * 4 + 4 + 3 = (j * 4 + 3) + 4 by omega]
      exact this
theorem infoExpr : (Try.prog.info? 24).map (fun i => (i.zero, i.size, i.bytes)) = some (some (.agg #[.int .i64 0, .string ⟨#[]⟩, .string ⟨#[]⟩, .slice none 0 0]), 4, 64) := by kernel_rfl
theorem four_new (w : World) (t : TypeId) (k : Kd) : ∀ j u, (kidC k)[j]? = some u → (w.alloc (.cells (kidC k).toArray t)).cell? ((⟨w.heap.size, 0, none⟩ : Addr).add j) = some u := by
  intro j u hj
  have e1 : ∀ i, (⟨w.heap.size, 0, none⟩ : Addr).add i = ⟨w.heap.size, i, none⟩ := fun i => by unfold Addr.add; split <;> simp_all
  rw [e1, (Box.new w t (kidC k).toArray).cell]
  simpa using hj
/-- A row of kids that lies as a tree's kids. -/
theorem trAt_of_own {ok : Nat → Prop} {w : World} {base n c d : Nat} {A : Option Addr} {t : Tr} {ks : List Kd} (hN : NodeOk t) (ht : t.kids = ks.map (·.1))
    (h : w.ownsRow base 24 4 (.slice A n c) ks.length (kidCells ks)) (hb : ∀ b, base ≤ b → ok b) (hk : ∀ k ∈ ks, TrAt ok w d k.2.1 k.1) : TrAt ok w (d + 1) A t := by
  refine ⟨hN, fun hp => ?_⟩
  have hl : t.kids.length = ks.length := by rw [ht]; simp
  rcases h.2 with ⟨_, h0⟩ | ⟨g, cap, cur, hv, hbg, hg, hrest⟩
  · omega
  · injection hv with h1 h2 h3
    subst h1
    refine ⟨g, 0, rfl, hb g hbg, lt_of_there hg, fun j k hj => ?_⟩
    rw [ht, List.getElem?_map, Option.map_eq_some_iff] at hj
    obtain ⟨x, hx, rfl⟩ := hj
    obtain ⟨a1, a2, a3, a4⟩ := kidCells_at hx
    have c1 := World.ownsRow.cells h (g := g) rfl _ _ a1
    have c2 := World.ownsRow.cells h (g := g) rfl _ _ a2
    have c3 := World.ownsRow.cells h (g := g) rfl _ _ a3
    have c4 := World.ownsRow.cells h (g := g) rfl _ _ a4
    have e1 : ∀ i, (⟨g, 0, none⟩ : Addr).add i = ⟨g, i, none⟩ := fun i => by unfold Addr.add; split <;> simp_all
    rw [e1] at c1 c2 c3 c4
    simp only [Nat.zero_add]
    exact ⟨x.2.1, x.2.2, c1, c2, c3, c4, hk x (List.mem_of_getElem? hx)⟩
theorem own_slice4 {w : World} {base t size n : Nat} {v : Value} {xs : List Value} (h : w.ownsRow base t size v n xs) : ∃ A c, v = .slice A n c := by
  rcases h.2 with ⟨hv, h0⟩ | ⟨g, cap, cur, hv, _⟩
  · exact ⟨none, 0, by rw [hv, h0]⟩
  · exact ⟨_, _, hv⟩
/-- The state of a reader's part: its reader, the part that it fills, the kids so far. -/
structure PartAt (ty : TypeId) (W : World) (rb bx d : Nat) (s : ByteArray) (p n e : Int) (x y z v : Value) (ks : List Kd) (w : World) : Prop where
  lt : W.heap.size < bx
  rbl : rb < W.heap.size
  rd : Box w rb ty (xrC s p n e)
  box : Box w bx 24 #[x, y, z, v]
  res : Box w W.heap.size 24 #[.int .i64 0, .string ⟨#[]⟩, .string ⟨#[]⟩, .slice none 0 0]
  own : w.ownsRow (bx + 1) 24 4 v ks.length (kidCells ks)
  kid : ∀ k ∈ ks, TrAt (fun b => bx < b ∧ v.ownBlock ≠ some b) w d k.2.1 k.1
  off : Off (· = rb) W w
section
variable {ty : TypeId} {W w w' : World} {rb bx d : Nat} {s : ByteArray} {p n e p' n' e' : Int} {x y z v : Value} {ks : List Kd}
theorem PartAt.cells (h : PartAt ty W rb bx d s p n e x y z v ks w) :
    w.cell? ⟨bx, 0, none⟩ = some x ∧ w.cell? ⟨bx, 1, none⟩ = some y ∧ w.cell? ⟨bx, 2, none⟩ = some z ∧ w.cell? ⟨bx, 3, none⟩ = some v ∧
    w.frozen? ⟨bx, 0, none⟩ = false ∧ w.frozen? ⟨bx, 1, none⟩ = false ∧ w.frozen? ⟨bx, 2, none⟩ = false ∧ w.frozen? ⟨bx, 3, none⟩ = false :=
  ⟨h.box.cell 0, h.box.cell 1, h.box.cell 2, h.box.cell 3, h.box.frozen 0, h.box.frozen 1, h.box.frozen 2, h.box.frozen 3⟩
theorem PartAt.resc (h : PartAt ty W rb bx d s p n e x y z v ks w) :
    w.cell? ⟨W.heap.size, 0, none⟩ = some (.int .i64 0) ∧ w.cell? ⟨W.heap.size, 1, none⟩ = some (.string ⟨#[]⟩) ∧ w.cell? ⟨W.heap.size, 2, none⟩ = some (.string ⟨#[]⟩) ∧ w.cell? ⟨W.heap.size, 3, none⟩ = some (.slice none 0 0) ∧
    w.frozen? ⟨W.heap.size, 0, none⟩ = false ∧ w.frozen? ⟨W.heap.size, 1, none⟩ = false ∧ w.frozen? ⟨W.heap.size, 2, none⟩ = false ∧ w.frozen? ⟨W.heap.size, 3, none⟩ = false :=
  ⟨h.res.cell 0, h.res.cell 1, h.res.cell 2, h.res.cell 3, h.res.frozen 0, h.res.frozen 1, h.res.frozen 2, h.res.frozen 3⟩
/-- Behind a call that moves the reader alone. -/
theorem PartAt.moved (h : PartAt ty W rb bx d s p n e x y z v ks w) (hb : Box w' rb ty (xrC s p' n' e')) (ho : Off (· = rb) w w') : PartAt ty W rb bx d s p' n' e' x y z v ks w' := by
  have h1 := h.rbl
  have h2 := h.lt
  refine ⟨h.lt, h.rbl, hb, h.box.off ho (by omega), h.res.off ho (by omega), own_off h.own ho (fun k hk e => ?_), fun k hk => (h.kid k hk).off ho.size (fun b hb hok => ho.block b hb (fun e => ?_)), h.off.trans ho (fun _ _ e => e)⟩
  · have := (h.own.lt k hk).1; omega
  · have := hok.1; omega
theorem PartAt.start (hr : Box w rb ty (xrC s p n e)) (hrl : rb < W.heap.size) (hres : Box w W.heap.size 24 #[.int .i64 0, .string ⟨#[]⟩, .string ⟨#[]⟩, .slice none 0 0]) (hbx : Box w bx 24 #[x, y, z, .slice none 0 0]) (hlt : W.heap.size < bx) (ho : Off (· = rb) W w) : PartAt ty W rb bx d s p n e x y z (.slice none 0 0) [] w :=
  ⟨hlt, hrl, hr, hbx, hres, World.ownsRow_nil _ _ _ _, fun k hk => (by cases hk), ho⟩
theorem PartAt.set1 (h : PartAt ty W rb bx d s p n e x y z v [] w) (u : Value) : PartAt ty W rb bx d s p n e x u z v [] (w.setCell ⟨bx, 1, none⟩ u) := by
  have h1 := h.rbl
  have h2 := h.lt
  refine ⟨h.lt, h.rbl, h.rd.far (by show rb ≠ bx; omega) _, h.box.set 1 u, h.res.far (by show W.heap.size ≠ bx; omega) _, ?_, fun k hk => (by cases hk), h.off.set (.inr (by show W.heap.size ≤ bx; omega)) _⟩
  exact own_off h.own (Off.one w ⟨bx, 1, none⟩ u) (fun k hk e => by have := (h.own.lt k hk).1; have e2 : k = bx := e; omega)
theorem PartAt.set2 (h : PartAt ty W rb bx d s p n e x y z v [] w) (u : Value) : PartAt ty W rb bx d s p n e x y u v [] (w.setCell ⟨bx, 2, none⟩ u) := by
  have h1 := h.rbl
  have h2 := h.lt
  refine ⟨h.lt, h.rbl, h.rd.far (by show rb ≠ bx; omega) _, h.box.set 2 u, h.res.far (by show W.heap.size ≠ bx; omega) _, ?_, fun k hk => (by cases hk), h.off.set (.inr (by show W.heap.size ≤ bx; omega)) _⟩
  exact own_off h.own (Off.one w ⟨bx, 2, none⟩ u) (fun k hk e => by have := (h.own.lt k hk).1; have e2 : k = bx := e; omega)
/-- The reader's own error, count. -/
theorem PartAt.setr (h : PartAt ty W rb bx d s p n e x y z v [] w) (i : Nat) (u : Value) (hx : (xrC s p n e).setIfInBounds i u = xrC s p' n' e') : PartAt ty W rb bx d s p' n' e' x y z v [] (w.setCell ⟨rb, i, none⟩ u) := by
  have h1 := h.rbl
  have h2 := h.lt
  refine ⟨h.lt, h.rbl, by rw [← hx]; exact h.rd.set i u, h.box.far (by show bx ≠ rb; omega) _, h.res.far (by show W.heap.size ≠ rb; omega) _, ?_, fun k hk => (by cases hk), h.off.set (.inl rfl) _⟩
  exact own_off h.own (Off.one w ⟨rb, i, none⟩ u) (fun k hk e => by have := (h.own.lt k hk).1; have e2 : k = rb := e; omega)
theorem PartAt.alloc (h : PartAt ty W rb bx d s p n e x y z v ks w) (o : Obj) : PartAt ty W rb bx d s p n e x y z v ks (w.alloc o) :=
  ⟨h.lt, h.rbl, h.rd.alloc _, h.box.alloc _, h.res.alloc _, h.own.alloc _, fun k hk => (h.kid k hk).off (by simp) (fun b hb _ => Below.heap_alloc _ _ _ hb), h.off.alloc _⟩
theorem PartAt.drew (h : PartAt ty W rb bx d s p n e x y z v ks w) : PartAt ty W rb bx d s p n e x y z v ks w.drew :=
  ⟨h.lt, h.rbl, h.rd, h.box, h.res, own_off h.own ((Off.refl (fun _ => False) w).drew) (fun _ _ e => e), fun k hk => TrAt.off (w := w) (w' := w.drew) (Nat.le_refl _) (fun b hb _ => rfl) (h.kid k hk), h.off.drew⟩
/-- Behind an append of one kid. -/
theorem PartAt.grown {k : Kd} {v' : Value} (h : PartAt ty W rb bx d s p n e x y z v ks w) (hk : TrAt (fun b => bx < b ∧ v.ownBlock ≠ some b) w d k.2.1 k.1) (hg : w.grownBy w' v.ownBlock)
    (hown : w'.ownsRow (bx + 1) 24 4 v' (ks.length + 1) (kidCells ks ++ kidC k)) (hv : ∀ b, v'.ownBlock = some b → v.ownBlock = some b ∨ w.heap.size ≤ b) : PartAt ty W rb bx d s p n e x y z v' (ks ++ [k]) (w'.setCell ⟨bx, 3, none⟩ v') := by
  have h1 := h.rbl
  have h2 := h.lt
  have ho : ∀ b, b < w.heap.size → v.ownBlock ≠ some b → w'.heap[b]? = w.heap[b]? := fun b hb hne => hg.block b hb (fun e => hne e.symm)
  have hnb : ∀ b, b ≤ bx → v.ownBlock ≠ some b := fun b hb e => by have := (h.own.lt b e).1; omega
  have hs : ∀ b, b ≠ bx → (w'.setCell ⟨bx, 3, none⟩ v').heap[b]? = w'.heap[b]? := fun b hb => Below.heap_setCell _ _ _ _ hb
  have hbb : Box w' bx 24 #[x, y, z, v] := (ho bx h.box.lt (hnb bx (Nat.le_refl _))).trans h.box
  refine ⟨h.lt, h.rbl, ?_, hbb.set 3 v', ?_, ?_, fun k' hk' => ?_, ?_⟩
  · exact (hs rb (by omega)).trans ((ho rb h.rd.lt (hnb rb (by omega))).trans h.rd)
  · exact (hs _ (by omega)).trans ((ho _ h.res.lt (hnb _ (by omega))).trans h.res)
  · rw [kidCells_snoc, List.length_append]
    exact own_off hown (Off.one w' ⟨bx, 3, none⟩ v') (fun b hb e => by have := (hown.lt b hb).1; have e2 : b = bx := e; omega)
  · have hkk : TrAt (fun b => bx < b ∧ v.ownBlock ≠ some b) w d k'.2.1 k'.1 := by
      rcases List.mem_append.1 hk' with hk' | hk'
      · exact h.kid k' hk'
      · rw [List.mem_singleton.1 hk']; exact hk
    have hkm : TrAt (fun b => bx < b ∧ v.ownBlock ≠ some b ∧ v'.ownBlock ≠ some b) w d k'.2.1 k'.1 := hkk.mono fun b hb hok => ⟨hok.1, hok.2, fun e => by
      rcases hv b e with e2 | e2
      · exact hok.2 e2
      · omega⟩
    have hkw : TrAt (fun b => bx < b ∧ v.ownBlock ≠ some b ∧ v'.ownBlock ≠ some b) (w'.setCell ⟨bx, 3, none⟩ v') d k'.2.1 k'.1 := hkm.off (by simp [World.setCell]; exact hg.size) fun b hb hok => (hs b (by have := hok.1; omega)).trans (ho b hb hok.2.1)
    exact hkw.mono fun b _ hok => ⟨hok.1, hok.2.2⟩
  · exact (h.off.grown hg (fun k hk hlt => by have := (h.own.lt k hk).1; omega)).set (.inr (by show W.heap.size ≤ bx; omega)) _
/-- The tree that lies there. -/
theorem PartAt.tree {f c m : Nat} {A : Option Addr} {t : Tr} (h : PartAt ty W rb bx d s p n e x y z (.slice A m c) ks w) (hd : d = f - 1) (hf : 0 < ks.length → 0 < f) (hN : NodeOk t) (ht : t.kids = ks.map (·.1)) : TrAt (fun b => bx < b) w f A t := by
  cases f with
  | zero =>
    have h0 : ks.length = 0 := by
      rcases Nat.eq_zero_or_pos ks.length with h0 | h0
      · exact h0
      · have := hf h0; omega
    exact ⟨hN, by rw [ht, List.length_map]; exact h0⟩
  | succ f =>
    have hd2 : d = f := by omega
    subst hd2
    exact trAt_of_own hN ht h.own (fun b hb => hb) (fun k hk => (h.kid k hk).mono fun b _ hok => hok.1)
end
/-- What a reader's part hands back. -/
def GotPart (ty : TypeId) (W : World) (rb d : Nat) (s : ByteArray) (r : Tr × Int × Int × Int) (en : Ending) (w' : World) : Prop :=
  ∃ A c, en = .returned (exV r.1 A c) ∧ TrAt (fun b => W.heap.size ≤ b) w' d A r.1 ∧ Box w' rb ty (xrC s r.2.1 r.2.2.1 r.2.2.2) ∧ Off (· = rb) W w'
/-- The result laid down. -/
theorem PartAt.done {ty : TypeId} {W w : World} {rb bx f : Nat} {s : ByteArray} {p n e : Int} {ks : List Kd} {c : Nat} {A : Option Addr} {op : Int} {nm vl : ByteArray} {R : Tr × Int × Int × Int}
    (h : PartAt ty W rb bx (f - 1) s p n e (.int .i64 op) (.string nm) (.string vl) (.slice A ks.length c) ks w) (hf : 0 < ks.length → 0 < f) (hN : NodeOk (.mk op nm vl (ks.map (·.1)))) (hR : R = (.mk op nm vl (ks.map (·.1)), p, n, e)) :
    Box ((((w.setCell ⟨W.heap.size, 0, none⟩ (.int .i64 op)).setCell ⟨W.heap.size, 1, none⟩ (.string nm)).setCell ⟨W.heap.size, 2, none⟩ (.string vl)).setCell ⟨W.heap.size, 3, none⟩ (.slice A ks.length c)) W.heap.size 24 #[.int .i64 op, .string nm, .string vl, .slice A ks.length c] ∧
    GotPart ty W rb f s R (.returned (.agg #[.int .i64 op, .string nm, .string vl, .slice A ks.length c])) ((((w.setCell ⟨W.heap.size, 0, none⟩ (.int .i64 op)).setCell ⟨W.heap.size, 1, none⟩ (.string nm)).setCell ⟨W.heap.size, 2, none⟩ (.string vl)).setCell ⟨W.heap.size, 3, none⟩ (.slice A ks.length c)) := by
  have hT := h.tree rfl hf hN rfl
  have h1 := h.rbl
  have h2 := h.lt
  have hO : Off (· = W.heap.size) w ((((w.setCell ⟨W.heap.size, 0, none⟩ (.int .i64 op)).setCell ⟨W.heap.size, 1, none⟩ (.string nm)).setCell ⟨W.heap.size, 2, none⟩ (.string vl)).setCell ⟨W.heap.size, 3, none⟩ (.slice A ks.length c)) :=
    ((((Off.refl (· = W.heap.size) w).set (.inl rfl) _).set (.inl rfl) _).set (.inl rfl) _).set (.inl rfl) _
  have hB := (((h.res.set 0 (.int .i64 op)).set 1 (.string nm)).set 2 (.string vl)).set 3 (.slice A ks.length c)
  have hRd := h.rd.off hO (by omega)
  have hW : Off (· = rb) W ((((w.setCell ⟨W.heap.size, 0, none⟩ (.int .i64 op)).setCell ⟨W.heap.size, 1, none⟩ (.string nm)).setCell ⟨W.heap.size, 2, none⟩ (.string vl)).setCell ⟨W.heap.size, 3, none⟩ (.slice A ks.length c)) := h.off.trans hO (fun i hi e => by have e2 : i = W.heap.size := e; omega)
  have hT2 := hT.off hO.size (fun b hb hok => hO.block b hb (fun e => by have e2 : b = W.heap.size := e; omega))
  generalize ((((w.setCell ⟨W.heap.size, 0, none⟩ (.int .i64 op)).setCell ⟨W.heap.size, 1, none⟩ (.string nm)).setCell ⟨W.heap.size, 2, none⟩ (.string vl)).setCell ⟨W.heap.size, 3, none⟩ (.slice A ks.length c)) = w' at *
  subst hR
  refine ⟨hB, A, c, ?_, hT2.mono (fun b _ hok => by omega), hRd, hW⟩
  simp [exV, exC, Tr.op, Tr.name, Tr.value, Tr.kids]
theorem loopG_step (g : Int → Int → Tr × Int × Int × Int) (m : Nat) (p n : Int) : loopG g (m + 1) p n 0 = ((g p n).1 :: (loopG g m (g p n).2.1 (g p n).2.2.1 (g p n).2.2.2).1, (loopG g m (g p n).2.1 (g p n).2.2.1 (g p n).2.2.2).2) := by rw [loopG, if_pos rfl]
/-- Half way through the kids. -/
structure KidsAt (ty : TypeId) (W : World) (rb bx f : Nat) (s : ByteArray) (g : Int → Int → Tr × Int × Int × Int) (H : Head) (k : Nat) (w : World) : Prop where
  ex : ∃ (ks : List Kd) (v : Value) (p n e : Int), ks.length = k ∧ k ≤ H.kids.toNat ∧ PartAt ty W rb bx (f - 1) s p n e (.int .i64 H.op) (.string H.name) (.string H.value) v ks w ∧ (e = 0 → 0 ≤ p ∧ p ≤ s.size ∧ 0 ≤ n ∧ n ≤ 30) ∧ (0 < k ∨ e = 0 → 0 < f) ∧
    loopG g H.kids.toNat H.p H.n H.e = (ks.map (·.1) ++ (loopG g (H.kids.toNat - k) p n e).1, (loopG g (H.kids.toNat - k) p n e).2)
theorem KidsAt.start {ty : TypeId} {W w : World} {rb bx f : Nat} {s : ByteArray} {g : Int → Int → Tr × Int × Int × Int} {H : Head} (h : PartAt ty W rb bx (f - 1) s H.p H.n H.e (.int .i64 H.op) (.string H.name) (.string H.value) (.slice none 0 0) [] w)
    (he : H.e = 0 → 0 ≤ H.p ∧ H.p ≤ s.size ∧ 0 ≤ H.n ∧ H.n ≤ 30) (hb : f = 0 → H.e ≠ 0) : KidsAt ty W rb bx f s g H 0 w :=
  ⟨[], _, H.p, H.n, H.e, rfl, Nat.zero_le _, h, he, fun hh => by
    rcases hh with hh | hh
    · omega
    · rcases Nat.eq_zero_or_pos f with h0 | h0
      · exact absurd hh (hb h0)
      · exact h0, by simp⟩
theorem KidsAt.step {ty : TypeId} {W wr w2 w4 : World} {rb bx f : Nat} {s : ByteArray} {g : Int → Int → Tr × Int × Int × Int} {H : Head} {ks : List Kd} {k c c2 g2 cap2 : Nat} {A A2 : Option Addr} {p n : Int} {r : Tr × Int × Int × Int} {o : Obj}
    (hl : ks.length = k) (hk : k < H.kids.toNat) (hf : 0 < f) (h0 : PartAt ty W rb bx (f - 1) s p n 0 (.int .i64 H.op) (.string H.name) (.string H.value) (.slice A ks.length c) ks wr)
    (hM : PartAt ty W rb bx (f - 1) s r.2.1 r.2.2.1 r.2.2.2 (.int .i64 H.op) (.string H.name) (.string H.value) (.slice A ks.length c) ks (w2.alloc o)) (hT : TrAt (fun b => wr.heap.size ≤ b) w2 (f - 1) A2 r.1)
    (hown : w4.ownsRow (bx + 1) 24 4 (.slice (some ⟨g2, 0, none⟩) (ks.length + 1) cap2) (ks.length + 1) (kidCells ks ++ kidC (r.1, A2, c2))) (hgrow : (w2.alloc o).grownBy w4 (Value.slice A ks.length c).ownBlock) (hg : (Value.slice A ks.length c).ownBlock = some g2 ∨ g2 = w2.heap.size + 1)
    (hok : r.2.2.2 = 0 → 0 ≤ r.2.1 ∧ r.2.1 ≤ s.size ∧ 0 ≤ r.2.2.1 ∧ r.2.2.1 ≤ 30)
    (hall : loopG g H.kids.toNat H.p H.n H.e = (ks.map (·.1) ++ (loopG g (H.kids.toNat - k) p n 0).1, (loopG g (H.kids.toNat - k) p n 0).2))
    (hN : loopG g (H.kids.toNat - (k + 1) + 1) p n 0 = (r.1 :: (loopG g (H.kids.toNat - (k + 1)) r.2.1 r.2.2.1 r.2.2.2).1, (loopG g (H.kids.toNat - (k + 1)) r.2.1 r.2.2.1 r.2.2.2).2)) :
    KidsAt ty W rb bx f s g H (k + 1) (w4.setCell ⟨bx, 3, none⟩ (.slice (some ⟨g2, 0, none⟩) (ks.length + 1) cap2)) := by
  have hb := h0.box.lt
  have hlt := h0.own.lt
  have hP := hM.grown (k := (r.1, A2, c2)) (v' := .slice (some ⟨g2, 0, none⟩) (ks.length + 1) cap2) ((hT.mono (ok' := fun b => bx < b ∧ (Value.slice A ks.length c).ownBlock ≠ some b) fun b _ hok => ⟨by omega, fun e => by have := (hlt b e).2; omega⟩).off (w' := w2.alloc o) (by simp) (fun b hb _ => Below.heap_alloc _ _ _ hb)) hgrow hown (fun b e => by
    have e2 : g2 = b := by simpa [Value.ownBlock] using e
    subst e2
    rcases hg with hg | hg
    · exact .inl hg
    · exact .inr (by simp; omega))
  refine ⟨ks ++ [(r.1, A2, c2)], _, r.2.1, r.2.2.1, r.2.2.2, by simp [hl], hk, hP, hok, fun _ => hf, ?_⟩
  rw [hall, show H.kids.toNat - k = H.kids.toNat - (k + 1) + 1 by omega, hN]
  simp
theorem exNode {op : Int} {nm vl : ByteArray} {L : List Tr} (h0 : 0 ≤ op) (h1 : op ≤ 255) (h2 : nm.size ≤ 1000) (h3 : vl.size ≤ 1000) (h4 : L.length ≤ 255) : NodeOk (.mk op nm vl L) :=
  ⟨by show _ ≤ op; omega, by show op < _; omega, by show nm.size ≤ _; omega, by show vl.size ≤ _; omega, by show L.length ≤ _; omega⟩
end Go.Proofs.Ytneholfghffpfaa
