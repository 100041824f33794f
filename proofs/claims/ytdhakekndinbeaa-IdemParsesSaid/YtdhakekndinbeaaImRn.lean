/- idem: the document's Note, by a contract. No condition but that they are not too many. -/
import Derived.Test.YtdhakekndinbeaaImRm
import Derived.Deep.AppendLies
import Derived.Deep.RegionLaw
import Derived.Deep.RegionHeld
namespace Go.Proofs.Ytdhakekndinbeaa
open Go.RowKit
set_option linter.unusedVariables false
section
variable {P : Program} {md : Region.Mode} {l : List Oper} {Q : Exit → Act → World → Prop} {S : World → Prop}
theorem takeW {i : Nat} {oi : Oper} {v : Value} {fuel : Nat} {listed : Array Bool} {a : Act} {w : World} (hi : l[i]? = some oi)
    (hs : Region.noSelect l.toArray = true) (hf : Region.free md l.toArray listed i = true) (hr : (Region.ready md l.toArray listed).contains i = true)
    (hQ : ∀ c a w, Q (.panic c) (a.put oi.dst v) w → Q (.panic c) a w) (hw : Region.wanted oi (yielded l.toArray a.tmps) = true) (hS : S w) (hy : ∀ w, S w → (execOp a.eval oi).run P w = .ok (.value v) w)
    (h : wpAnyH P md l.toArray Q S fuel (listed.setIfInBounds i true) (a.put oi.dst v) w) : wpAnyH P md l.toArray Q S (fuel + 1) listed a w :=
  wpAnyH_take (List.getElem?_toArray.trans hi) hs hf hr hQ (.inl ⟨hw, hy⟩) hS h
theorem takeU {i : Nat} {oi : Oper} {fuel : Nat} {listed : Array Bool} {a : Act} {w : World} (hi : l[i]? = some oi)
    (hs : Region.noSelect l.toArray = true) (hf : Region.free md l.toArray listed i = true) (hr : (Region.ready md l.toArray listed).contains i = true)
    (hQ : ∀ c a w, Q (.panic c) (a.put oi.dst undef) w → Q (.panic c) a w) (hw : Region.wanted oi (yielded l.toArray a.tmps) = false) (hS : S w)
    (h : wpAnyH P md l.toArray Q S fuel (listed.setIfInBounds i true) (a.put oi.dst undef) w) : wpAnyH P md l.toArray Q S (fuel + 1) listed a w :=
  wpAnyH_take (List.getElem?_toArray.trans hi) hs hf hr hQ (.inr ⟨hw, rfl⟩) hS h
theorem consL {i : Nat} {o : Oper} {rs : List Nat} {fuel : Nat} {listed : Array Bool} {a : Act} {w : World} (hi : l[i]? = some o) (hw : Region.wanted o (yielded l.toArray a.tmps) = true)
    (h : ∀ K' : Act → World → Prop, Shut (∀ a w, S w → (S w → wpAnyH P md l.toArray Q S fuel (listed.setIfInBounds i true) a w) → K' a w) → Oper.wp P o a w K' Q)
    (hs : AllReadyH P md l.toArray Q S fuel listed a w rs) : AllReadyH P md l.toArray Q S fuel listed a w (i :: rs) :=
  AllReadyH.cons (List.getElem?_toArray.trans hi) (fun K' hK => by rw [if_pos hw]; exact h K' hK) hs
end
/-- What the document's Note may write: its own kinds of blocks. -/
def badR (o : Obj) : Prop := match o with
  | .cells _ t _ => t = 28 ∨ t = 73
  | _ => False
/-- The document's Producers, of the call's own. -/
structure RO (W : World) (p : Nat) (G : List GH) (w : World) : Prop where
  is : ∃ K A c, RpIs w W.heap.size p K A c ∧ K.map (·.1) = G
  le : W.heap.size ≤ p
  ok : GOk G
  bel : Below W.heap.size W w
theorem RO.later {W w w' : World} {p : Nat} {G : List GH} (h : RO W p G w) (hb : Below w.heap.size w w') : RO W p G w' := by
  obtain ⟨K, A, c, h1, h2⟩ := h.is
  exact ⟨⟨K, A, c, h1.later hb, h2⟩, h.le, h.ok, h.bel.trans (hb.mono h.bel.size)⟩
theorem RO.new {W w : World} (hb : Below W.heap.size W w) : RO W w.heap.size [] (w.alloc (.cells #[.slice none 0 0] 28)) :=
  ⟨⟨[], none, 0, ⟨Box.new _ _ _, World.ownsRow_nil _ _ _ _, fun x hx => by cases hx⟩, rfl⟩, hb.size, GOk.nil, hb.trans (((Below.refl _ _).alloc (Nat.le_refl _) _).mono hb.size)⟩
/-- What is there ahead of the writing. -/
structure RnI (W : World) (base p q : Nat) (K : List RK) (A : Option Addr) (c : Nat) (b : BN) (B : Option Addr) (m d : Nat) (w : World) : Prop where
  rp : RpIs w base p K A c
  bx : Box w q 31 #[.int .i64 b.base, .int .i64 b.span, .int .i64 b.prod, .int .i64 b.epoch, .int .i64 b.seq, .slice B m d]
  keep : KeepO badR W w
  bel : Below base W w
theorem RnI.later {W w w' : World} {base p q c m d : Nat} {K : List RK} {A B : Option Addr} {b : BN} (h : RnI W base p q K A c b B m d w) (hb : Below w.heap.size w w') (hl : base ≤ w.heap.size) : RnI W base p q K A c b B m d w' :=
  ⟨h.rp.later hb, h.bx.later hb, h.keep.trans (KeepO.of_below hb), h.bel.trans (hb.mono hl)⟩
theorem rn_later {W w w' : World} {base p c m d : Nat} {K : List RK} {A B : Option Addr} {b : BN} (h : (fun w => (w.cell? ⟨W.heap.size, 0, none⟩ = some (.int .i64 b.base) ∧ w.cell? ⟨W.heap.size, 1, none⟩ = some (.int .i64 b.span) ∧ w.cell? ⟨W.heap.size, 2, none⟩ = some (.int .i64 b.prod) ∧ w.cell? ⟨W.heap.size, 3, none⟩ = some (.int .i64 b.epoch) ∧ w.cell? ⟨W.heap.size, 4, none⟩ = some (.int .i64 b.seq) ∧ w.cell? ⟨W.heap.size, 5, none⟩ = some (.slice B m d)) ∧ RnI W base p W.heap.size K A c b B m d w ∧ W.heap.size ≤ w.heap.size) w) (hb : Below w.heap.size w w') (hbase : base ≤ W.heap.size := by assumption) : (fun w => (w.cell? ⟨W.heap.size, 0, none⟩ = some (.int .i64 b.base) ∧ w.cell? ⟨W.heap.size, 1, none⟩ = some (.int .i64 b.span) ∧ w.cell? ⟨W.heap.size, 2, none⟩ = some (.int .i64 b.prod) ∧ w.cell? ⟨W.heap.size, 3, none⟩ = some (.int .i64 b.epoch) ∧ w.cell? ⟨W.heap.size, 4, none⟩ = some (.int .i64 b.seq) ∧ w.cell? ⟨W.heap.size, 5, none⟩ = some (.slice B m d)) ∧ RnI W base p W.heap.size K A c b B m d w ∧ W.heap.size ≤ w.heap.size) w' := by
  obtain ⟨⟨h0, h1, h2, h3, h4, h5⟩, h6, h7⟩ := h
  have k := h6.later hb (by omega)
  exact ⟨bx5 k.bx, k, Nat.le_trans h7 hb.size⟩
/-- What is there while the one that is noted is made anew, in the block o; its window so far. -/
structure RnU (W : World) (base p o : Nat) (K : List RK) (A : Option Addr) (c : Nat) (b : BN) (B : Option Addr) (m d : Nat) (id ep : Int) (u : Value) (L : List SN) (w : World) : Prop where
  rn : RnI W base p W.heap.size K A c b B m d w
  one : Box w o 73 #[.int .i64 id, .int .i64 ep, u]
  sn : SnAt w u L
  lo : base ≤ w.heap.size
  qo : W.heap.size < o
  go : ∀ k, (Value.slice A K.length c).ownBlock = some k → k < o
theorem RnU.later {W w w' : World} {base p o c m d : Nat} {K : List RK} {A B : Option Addr} {b : BN} {id ep : Int} {u : Value} {L : List SN} (h : RnU W base p o K A c b B m d id ep u L w) (hb : Below w.heap.size w w') : RnU W base p o K A c b B m d id ep u L w' :=
  ⟨h.rn.later hb h.lo, h.one.later hb, h.sn.later hb, Nat.le_trans h.lo hb.size, h.qo, h.go⟩
theorem RnU.mk0 {W w : World} {base p c m d : Nat} {K : List RK} {A B : Option Addr} {b : BN} {id ep : Int} {u : Value} {L : List SN} (h : RnI W base p W.heap.size K A c b B m d w) (hs : SnAt w u L) (hl : base ≤ W.heap.size) :
    RnU W base p w.heap.size K A c b B m d id ep u L (w.alloc (.cells #[.int .i64 id, .int .i64 ep, u] 73)) := by
  have hb : Below w.heap.size w (w.alloc (.cells #[.int .i64 id, .int .i64 ep, u] 73)) := (Below.refl _ _).alloc (Nat.le_refl _) _
  have hq := h.bx.lt
  exact ⟨h.later hb (by omega), Box.new _ _ _, hs.later hb, by have := hb.size; omega, hq, fun k hk => (h.rp.row.lt k hk).2⟩
/-- Its window, copied. -/
theorem RnU.first {W w : World} {base p o c m d : Nat} {K : List RK} {A B : Option Addr} {b : BN} {id ep : Int} {u : Value} {L : List SN} (h : RnU W base p o K A c b B m d id ep u L w) (hL : L.length ≤ 5) :
    ∃ (A2 : Option Addr) (c2 : Nat) (w2 : World), (Builtin.append_ #[71, 71] 71 #[.slice none 0 0, u]).run Try.prog w = .ok (.slice A2 L.length c2) w2 ∧ w2.ownsRow w.heap.size 75 3 (.slice A2 L.length c2) L.length (snC L) ∧
      Below w.heap.size w w2 ∧ Hid (RnU W base p o K A c b B m d id ep u L w2) := by
  obtain ⟨A2, c2, w2, h1, h2, h3⟩ := cat3 Try.underlying71 sntInfo rfl (by decide) (World.ownsRow_nil w w.heap.size 75 3) (src_sn h.sn) (snC_one _) (Nat.le_refl _) (by omega)
  have hb : Below w.heap.size w w2 := (Below.refl _ _).grown h3 (Nat.le_refl _) (fun k hk => by cases hk)
  rw [Nat.zero_add] at h1 h2
  exact ⟨A2, c2, w2, h1, h2, hb, Lib.hid (h.later hb)⟩
theorem KeepO.far {W w : World} {q : Addr} {u : Value} (h : KeepO badR W w) (hq : W.heap.size ≤ q.block) : KeepO badR W (w.setCell q u) := fun k o hk hb => (Below.heap_setCell w q u k (by have := lt_of_there hk; omega)).trans (h k o hk hb)
/-- The window's slice is set. -/
theorem RnU.win {W w : World} {base p o c m d : Nat} {K : List RK} {A B : Option Addr} {b : BN} {id ep : Int} {u u' : Value} {L L' : List SN} (h : RnU W base p o K A c b B m d id ep u L w) (hs : SnAt w u' L') (hl : base ≤ W.heap.size) : RnU W base p o K A c b B m d id ep u' L' (w.setCell ⟨o, 2, none⟩ u') := by
  have ho : Off (· = o) w (w.setCell ⟨o, 2, none⟩ u') := Off.one w ⟨o, 2, none⟩ u'
  have hone := h.one
  have hsn : ∀ {v : Value} {M : List SN}, SnAt w v M → SnAt (w.setCell ⟨o, 2, none⟩ u') v M := fun hv => hv.off ho (fun g cur hg e => by
    subst e
    unfold Box at hone
    rw [hg] at hone
    injection hone with hone
    injection hone with _ hone _
    exact absurd hone (by decide))
  have hqo := h.qo
  refine ⟨⟨⟨h.rn.rp.box.off ho (fun e => box_ne hone h.rn.rp.box (by decide) e.symm), own_off h.rn.rp.row ho (fun k hk e => by have := h.go k hk; omega), fun x hx => hsn (h.rn.rp.sn x hx)⟩, h.rn.bx.off ho (by omega), h.rn.keep.far (by show W.heap.size ≤ o; omega), h.rn.bel.setCell (p := ⟨o, 2, none⟩) (by show base ≤ o; omega) _⟩, hone.set 2 u', hsn hs, by have := h.lo; simpa [World.setCell] using this, h.qo, h.go⟩
def st3 (w : World) (g j : Nat) (a b c : Value) : World := ((w.setCell ⟨g, j, none⟩ a).setCell ⟨g, j + 1, none⟩ b).setCell ⟨g, j + 2, none⟩ c
/-- The one that is noted is stored in its place. -/
theorem RnU.store {W w : World} {base p o c m d g i : Nat} {K : List RK} {B : Option Addr} {b : BN} {id ep : Int} {u : Value} {L : List SN} (h : RnU W base p o K (some ⟨g, 0, none⟩) c b B m d id ep u L w) (hi : i < K.length) (hl : base ≤ W.heap.size) :
    RpIs (st3 w g (i * 3) (.int .i64 id) (.int .i64 ep) u) base p (K.set i ((id, ep, L), u)) (some ⟨g, 0, none⟩) c ∧ KeepO badR W (st3 w g (i * 3) (.int .i64 id) (.int .i64 ep) u) ∧ Below base W (st3 w g (i * 3) (.int .i64 id) (.int .i64 ep) u) := by
  obtain ⟨cur, hcur, _, hbg, _⟩ := row_cur h.rn.rp.row
  have ho : Off (· = g) w (st3 w g (i * 3) (.int .i64 id) (.int .i64 ep) u) := ((Off.refl (· = g) w).set (p := ⟨g, i * 3, none⟩) (.inl rfl) _).set (p := ⟨g, i * 3 + 1, none⟩) (.inl rfl) _ |>.set (p := ⟨g, i * 3 + 2, none⟩) (.inl rfl) _
  have hsn : ∀ {v : Value} {M : List SN}, SnAt w v M → SnAt (st3 w g (i * 3) (.int .i64 id) (.int .i64 ep) u) v M := fun hv => hv.off ho (fun k cur' hk e => by
    subst e
    rw [hcur] at hk
    injection hk with hk
    injection hk with _ hk _
    exact absurd hk (by decide))
  refine ⟨⟨?_, ?_, fun x hx => ?_⟩, fun k o' hk hbad => ?_, (((h.rn.bel.setCell (p := ⟨g, i * 3, none⟩) hbg _).setCell (p := ⟨g, i * 3 + 1, none⟩) hbg _).setCell (p := ⟨g, i * 3 + 2, none⟩) hbg _)⟩
  · rw [List.length_set]
    refine h.rn.rp.box.off ho (fun e => ?_)
    subst e
    have hb := h.rn.rp.box
    unfold Box at hb
    rw [hcur] at hb
    injection hb with hb
    injection hb with _ hb _
    exact absurd hb (by decide)
  · rw [List.length_set, rowK_set hi]
    exact ((((h.rn.rp.row.stored _ _).1.stored _ _).1).stored _ _).1
  · rcases List.mem_or_eq_of_mem_set hx with hx | hx
    · exact hsn (h.rn.rp.sn x hx)
    · rw [hx]; exact hsn h.sn
  · have h1 := h.rn.keep k o' hk hbad
    refine (ho.block k (lt_of_there h1) (fun e => ?_)).trans h1
    subst e
    rw [hcur] at h1
    injection h1 with h1
    subst h1
    exact hbad (.inr rfl)
/-- One more behind it. -/
theorem sn_more {w : World} {M : List SN} {A2 : Option Addr} {c2 B' : Nat} (ho : w.ownsRow B' 75 3 (.slice A2 M.length c2) M.length (snC M)) (hBw : B' ≤ w.heap.size) (hM : M.length ≤ 5) (s : SN) :
    ∃ (g3 c3 : Nat) (w3 : World), (Builtin.append_ #[71, 71] 71 #[.slice A2 M.length c2, .slice (some ⟨w.heap.size, 0, none⟩) 1 1]).run Try.prog (w.alloc (.cells #[.int .i64 s.1, .int .i64 s.2.1, .int .i64 s.2.2] 75)) = .ok (.slice (some ⟨g3, 0, none⟩) (M.length + 1) c3) w3 ∧
      w3.ownsRow B' 75 3 (.slice (some ⟨g3, 0, none⟩) (M.length + 1) c3) (M.length + 1) (snC (M ++ [s])) ∧ M.length + 1 ≤ c3 ∧ Below B' w w3 := by
  have hbn : Below w.heap.size w (w.alloc (.cells #[.int .i64 s.1, .int .i64 s.2.1, .int .i64 s.2.2] 75)) := (Below.refl _ _).alloc (Nat.le_refl _) _
  have hown := own_below ho hbn
  have hsrc : SrcR (w.alloc (.cells #[.int .i64 s.1, .int .i64 s.2.1, .int .i64 s.2.2] 75)) (.slice (some ⟨w.heap.size, 0, none⟩) 1 1) 1 [.int .i64 s.1, .int .i64 s.2.1, .int .i64 s.2.2] := by
    refine .inr ⟨_, 1, rfl, rfl, fun j y hj => ?_⟩
    rw [add_at, Nat.zero_add, (Box.new w 75 #[.int .i64 s.1, .int .i64 s.2.1, .int .i64 s.2.2]).cell]
    simpa using hj
  obtain ⟨A3, c3, w3, h1, h2, h3⟩ := cat3 Try.underlying71 sntInfo rfl (by decide) hown hsrc (snC_one [s]) (by have := hbn.size; omega) (by omega)
  rw [show snC M ++ [.int .i64 s.1, .int .i64 s.2.1, .int .i64 s.2.2] = snC (M ++ [s]) from (snC_snoc M s).symm] at h2
  have hlow : ∀ k, (Value.slice A2 M.length c2).ownBlock = some k → B' ≤ k := fun k hk => (ho.lt k hk).1
  have hb3 : Below B' w w3 := (hbn.mono hBw).trans ((Below.refl B' _).grown h3 (by have := hbn.size; omega) hlow)
  rcases h2.2 with ⟨hv, h0⟩ | ⟨g3, cap', cur, hv, hg, hh, h4, _⟩
  · omega
  · injection hv with e1 _ e3
    subst e1 e3
    exact ⟨g3, _, w3, h1, h2, h4, hb3⟩
def GotRN (W : World) (base p : Nat) (K : List RK) (b : BN) (en : Ending) (w' : World) : Prop :=
  en = .returned (.tuple #[]) ∧ ∃ K' A' c', RpIs w' base p K' A' c' ∧ K'.map (·.1) = noteG (K.map (·.1)) b ∧ KeepO badR W w' ∧ Below base W w'
theorem nil_or {w : World} {base c : Nat} {K : List RK} {A : Option Addr} (h : w.ownsRow base 73 3 (.slice A K.length c) K.length (rowK K)) : (A = none ∧ K = [] ∧ c = 0) ∨ ∃ g, A = some ⟨g, 0, none⟩ ∧ K.length ≤ c := by
  rcases h.2 with ⟨hv, h0⟩ | ⟨g, cap, cur, hv, _, _, h4, _⟩
  · injection hv with e1 _ e3
    exact .inl ⟨e1, List.length_eq_zero_iff.1 h0, e3⟩
  · injection hv with e1 _ e3
    subst e3
    exact .inr ⟨g, e1, h4⟩
theorem src0 {w : World} {K : List RK} {k : Nat} (h : K.length ≤ k) (a : Addr) (n : Nat) : SrcR w (.slice (some a) 0 n) (K.length - k) (rowK (K.drop k)) := by
  rw [List.drop_eq_nil_of_le h, show K.length - k = 0 by omega]
  exact .inr ⟨a, n, rfl, rfl, fun j y hj => by cases hj⟩
theorem src_none {w : World} : SrcR w (.slice none 0 0) 0 (rowK []) := .inl ⟨0, rfl, rfl, rfl⟩
/-- How many of them have lesser numbers. -/
theorem twl (K : List RK) (n : Int) {k0 : Nat} (h : (K.takeWhile fun x => decide (x.1.1 < n)).length = k0) : k0 ≤ K.length ∧ (∀ k, k < k0 → ∃ x, K[k]? = some x ∧ x.1.1 < n) ∧ ∀ x, K[k0]? = some x → ¬ x.1.1 < n := by
  induction K generalizing k0 with
  | nil =>
    have : k0 = 0 := by simpa using h.symm
    subst this
    exact ⟨Nat.zero_le _, fun k hk => by omega, fun x hx => by cases hx⟩
  | cons y r ih =>
    rw [List.takeWhile_cons] at h
    by_cases hy : y.1.1 < n
    · rw [decide_eq_true hy, if_pos rfl, List.length_cons] at h
      obtain ⟨j, rfl⟩ : ∃ j, k0 = j + 1 := ⟨_, h.symm⟩
      obtain ⟨a, b, c⟩ := ih (k0 := j) (by omega)
      refine ⟨by rw [List.length_cons]; omega, fun k hk => ?_, fun x hx => c x (by simpa using hx)⟩
      cases k with
      | zero => exact ⟨y, rfl, hy⟩
      | succ k =>
        obtain ⟨x, h1, h2⟩ := b k (by omega)
        exact ⟨x, by simpa using h1, h2⟩
    · rw [decide_eq_false hy, if_neg (by simp)] at h
      have : k0 = 0 := by simpa using h.symm
      subst this
      exact ⟨Nat.zero_le _, fun k hk => by omega, fun x hx => by
        have : y = x := by simpa using hx
        subst this
        exact hy⟩
theorem cell_lt {w : World} {p : Addr} {v : Value} (h : w.cell? p = some v) : p.block < w.heap.size := by
  rcases Nat.lt_or_ge p.block w.heap.size with hlt | hge
  · exact hlt
  · exfalso
    unfold World.cell? at h
    simp [Array.getElem?_eq_none hge] at h
theorem SrcR.later {w w' : World} {u : Value} {m : Nat} {ys : List Value} (h : SrcR w u m ys) (hb : Below w.heap.size w w') : SrcR w' u m ys := by
  rcases h with h | ⟨a, c, h1, h2, h3⟩
  · exact .inl h
  · exact .inr ⟨a, c, h1, h2, fun j y hj => (hb.cell (cell_lt (h3 j y hj))).trans (h3 j y hj)⟩
/-- What the insertion of a new one needs, run by run. -/
structure InsR (W : World) (base p : Nat) (K K1 : List RK) (k : Nat) (b : BN) (B : Option Addr) (m d : Nat) (U8 U10 : Value) (w : World) (Ao : Option Addr) (co : Nat) (w1 : World) (Ap : Option Addr) (cp : Nat) (w2 : World) (g1 c1 : Nat) (w3 : World) : Prop where
  r1 : (Builtin.append_ #[26, 26] 26 #[.slice none 0 0, U8]).run Try.prog w = .ok (.slice Ao k co) w1
  r2 : (Builtin.append_ #[26, 26] 26 #[.slice Ao k co, .slice (some ⟨w1.heap.size, 0, none⟩) 1 1]).run Try.prog (w1.alloc (.cells #[.int .i64 b.prod, .int .i64 b.epoch, .slice none 0 0] 73)) = .ok (.slice Ap (k + 1) cp) w2
  r3 : (Builtin.append_ #[26, 26] 26 #[.slice Ap (k + 1) cp, U10]).run Try.prog w2 = .ok (.slice (some ⟨g1, 0, none⟩) K1.length c1) w3
  b1 : Box w1 W.heap.size 31 #[.int .i64 b.base, .int .i64 b.span, .int .i64 b.prod, .int .i64 b.epoch, .int .i64 b.seq, .slice B m d]
  p2 : ∃ A c, Box w2 p 28 #[.slice A K.length c] ∧ Box w p 28 #[.slice A K.length c]
  p3 : ∃ v, Box w3 p 28 #[v]
  rn : RnI W base p W.heap.size K1 (some ⟨g1, 0, none⟩) c1 b B m d (w3.setCell ⟨p, 0, none⟩ (.slice (some ⟨g1, 0, none⟩) K1.length c1))
theorem rn_ins {W w : World} {base p c m d : Nat} {K : List RK} {A B : Option Addr} {b : BN} {k : Nat} {U8 U10 : Value} (h : RnI W base p W.heap.size K A c b B m d w) (hl : base ≤ W.heap.size) (hbp : base ≤ p) (hk : k ≤ K.length) (hK : K.length ≤ 100000)
    (h8 : SrcR w U8 k (rowK (K.take k))) (h10 : SrcR w U10 (K.length - k) (rowK (K.drop k))) :
    ∃ Ao co w1 Ap cp w2 g1 c1 w3, InsR W base p K (K.take k ++ ((b.prod, b.epoch, []), .slice none 0 0) :: K.drop k) k b B m d U8 U10 w Ao co w1 Ap cp w2 g1 c1 w3 := by
  have hWw : W.heap.size < w.heap.size := h.bx.lt
  obtain ⟨Ao, co, w1, r1, o1, g1⟩ := cat3 Try.underlying26 oneInfo rfl (by decide) (World.ownsRow_nil w w.heap.size 73 3) h8 (rowK_one (fun x hx => h.rp.sn x (List.mem_of_mem_take hx))) (Nat.le_refl _) (by omega)
  rw [Nat.zero_add] at r1 o1
  rw [List.nil_append] at o1
  have hb1 : Below w.heap.size w w1 := (Below.refl _ _).grown g1 (Nat.le_refl _) (fun k hk => by cases hk)
  have hbn : Below w1.heap.size w1 (w1.alloc (.cells #[.int .i64 b.prod, .int .i64 b.epoch, .slice none 0 0] 73)) := (Below.refl _ _).alloc (Nat.le_refl _) _
  have hsrc : SrcR (w1.alloc (.cells #[.int .i64 b.prod, .int .i64 b.epoch, .slice none 0 0] 73)) (.slice (some ⟨w1.heap.size, 0, none⟩) 1 1) 1 (rowK [((b.prod, b.epoch, []), .slice none 0 0)]) := by
    refine .inr ⟨_, 1, rfl, rfl, fun j y hj => ?_⟩
    rw [add_at, Nat.zero_add, (Box.new w1 73 #[.int .i64 b.prod, .int .i64 b.epoch, .slice none 0 0]).cell]
    simpa [rowK, rkC] using hj
  have hs1 := hb1.size
  obtain ⟨Ap, cp, w2, r2, o2, g2⟩ := cat3 Try.underlying26 oneInfo rfl (by decide) (own_below o1 hbn) hsrc (rowK_one (w := w1) (fun x hx => by
    have : x = ((b.prod, b.epoch, []), .slice none 0 0) := by simpa using hx
    subst this
    exact .inl ⟨rfl, rfl⟩)) (by have := hbn.size; omega) (by omega)
  have hb2 : Below w.heap.size w1 w2 := (hbn.mono hs1).trans ((Below.refl w.heap.size _).grown g2 (by have := hbn.size; omega) (fun k hk => (o1.lt k hk).1))
  have hb02 := hb1.trans hb2
  obtain ⟨Aq, c1, w3, r3, o3, g3⟩ := cat3 Try.underlying26 oneInfo rfl (by decide) o2 (h10.later hb02) (rowK_one (fun x hx => h.rp.sn x (List.mem_of_mem_drop hx))) hb02.size (by omega)
  have hb3 : Below w.heap.size w2 w3 := (Below.refl w.heap.size _).grown g3 hb02.size (fun k hk => (o2.lt k hk).1)
  have hb03 := hb02.trans hb3
  have hlen : k + 1 + (K.length - k) = (K.take k ++ ((b.prod, b.epoch, []), Value.slice none 0 0) :: K.drop k : List RK).length := by
    rw [List.length_append, List.length_take, List.length_cons, List.length_drop]
    omega
  have hrow : rowK (K.take k) ++ rowK [((b.prod, b.epoch, []), .slice none 0 0)] ++ rowK (K.drop k) = rowK (K.take k ++ ((b.prod, b.epoch, []), .slice none 0 0) :: K.drop k) := by
    rw [← rowK_append, ← rowK_append, List.append_assoc]
    rfl
  rw [hrow, hlen] at o3
  rw [hlen] at r3
  have hne : 0 < (K.take k ++ ((b.prod, b.epoch, []), Value.slice none 0 0) :: K.drop k : List RK).length := by rw [← hlen]; omega
  obtain ⟨g', rfl⟩ : ∃ g', Aq = some ⟨g', 0, none⟩ := by
    rcases o3.2 with ⟨_, h0⟩ | ⟨g', cap', cur, hv, _⟩
    · omega
    · injection hv with e1 _ _
      exact ⟨g', e1⟩
  have hp3 := h.rp.box.later hb03
  have hoff : Off (· = p) w3 (w3.setCell ⟨p, 0, none⟩ (.slice (some ⟨g', 0, none⟩) (K.take k ++ ((b.prod, b.epoch, []), Value.slice none 0 0) :: K.drop k : List RK).length c1)) := Off.one w3 ⟨p, 0, none⟩ _
  have hpne : ∀ {t : TypeId} {j : Nat} {cur : Array Value}, w3.heap[j]? = some (.cells cur t (0, 0)) → t ≠ 28 → ¬ j = p := fun hj ht e => by
    subst e
    have hb := hp3
    unfold Box at hb
    rw [hj] at hb
    injection hb with hb
    injection hb with _ hb _
    exact ht hb
  refine ⟨Ao, co, w1, Ap, cp, w2, g', c1, w3, r1, r2, r3, h.bx.later hb1, ⟨A, c, h.rp.box.later hb02, h.rp.box⟩, ⟨_, hp3⟩, ⟨⟨hp3.set 0 _, ?_, fun x hx => ?_⟩, ?_, fun j o hj hbad => ?_, (h.bel.trans (hb03.mono (by omega))).setCell (p := ⟨p, 0, none⟩) hbp _⟩⟩
  · obtain ⟨cur, hcur, _⟩ := row_cur o3
    exact own_off (own_base' o3 (by omega)) hoff (fun j hj e => by
      have : j = g' := by simpa [Value.ownBlock] using hj.symm
      subst this
      exact hpne hcur (by decide) e)
  · have hsn : SnAt w3 x.2 x.1.2.2 := by
      rcases List.mem_append.1 hx with hx | hx
      · exact (h.rp.sn x (List.mem_of_mem_take hx)).later hb03
      · rcases List.mem_cons.1 hx with rfl | hx
        · exact .inl ⟨rfl, rfl⟩
        · exact (h.rp.sn x (List.mem_of_mem_drop hx)).later hb03
    exact hsn.off hoff (fun j cur hj e => hpne hj (by decide) e)
  · exact (h.bx.later hb03).off hoff (fun e => by
      have := (h.bx.later hb03)
      unfold Box at this
      exact hpne this (by decide) e)
  · have h1 := (h.keep.trans (KeepO.of_below hb03)) j o hj hbad
    refine (hoff.block j (lt_of_there h1) (fun e => ?_)).trans h1
    subst e
    unfold Box at hp3
    rw [hp3] at h1
    injection h1 with h1
    subst h1
    exact hbad (.inl rfl)
set_option maxHeartbeats 16000000 in
set_option maxRecDepth 100000 in
theorem rnote_c (K : List RK) (A : Option Addr) (c base p : Nat) (b : BN) (B : Option Addr) (m d : Nat) (W : World) (h : RpIs W base p K A c) (hbase : base ≤ p) (hbW : base ≤ W.heap.size) (hl : K.length ≤ 100000) (hG : GOk (K.map (·.1))) :
    Calls Try.prog 13 #[.pointer (some ⟨p, 0, none⟩), .agg #[.int .i64 b.base, .int .i64 b.span, .int .i64 b.prod, .int .i64 b.epoch, .int .i64 b.seq, .slice B m d]] W (GotRN W base p K b) := by
  have hB1 : Below W.heap.size W (W.alloc (.cells #[.int .i64 b.base, .int .i64 b.span, .int .i64 b.prod, .int .i64 b.epoch, .int .i64 b.seq, .slice B m d] 31)) := (Below.refl _ _).alloc (Nat.le_refl _) _
  have H0 : Hid (RnI W base p W.heap.size K A c b B m d (W.alloc (.cells #[.int .i64 b.base, .int .i64 b.span, .int .i64 b.prod, .int .i64 b.epoch, .int .i64 b.seq, .slice B m d] 31))) := Lib.hid ⟨h.later hB1, Box.new _ _ _, KeepO.of_below hB1, hB1.mono hbW⟩
  have hS0 : (fun w => (w.cell? ⟨W.heap.size, 0, none⟩ = some (.int .i64 b.base) ∧ w.cell? ⟨W.heap.size, 1, none⟩ = some (.int .i64 b.span) ∧ w.cell? ⟨W.heap.size, 2, none⟩ = some (.int .i64 b.prod) ∧ w.cell? ⟨W.heap.size, 3, none⟩ = some (.int .i64 b.epoch) ∧ w.cell? ⟨W.heap.size, 4, none⟩ = some (.int .i64 b.seq) ∧ w.cell? ⟨W.heap.size, 5, none⟩ = some (.slice B m d)) ∧ RnI W base p W.heap.size K A c b B m d w ∧ W.heap.size ≤ w.heap.size) (W.alloc (.cells #[.int .i64 b.base, .int .i64 b.span, .int .i64 b.prod, .int .i64 b.epoch, .int .i64 b.seq, .slice B m d] 31)).drew := by
    have k := H0.out.later (Below.refl _ _).drew (Nat.le_trans hbW hB1.size)
    exact ⟨bx5 k.bx, k, hB1.size⟩
  have cn := fun w => numbers_c b B m d w
  unfold bnV bnC at cn
  have ce := fun w (h : RpIs w base p K A c) => repoch_c K A c base p b.prod w h (by omega)
  cases hb : bnB b with
  | false =>
    rw [hb] at cn
    have HN : Hid (noteG (K.map (·.1)) b = K.map (·.1)) := Lib.hid (by unfold noteG; rw [hb]; rfl)
    clear h hB1 hb ce
    go_enter Try.func13, Try.ntmps13
    go_wp2_with fail
    refine wp_region_held_drew (S := (fun w => (w.cell? ⟨W.heap.size, 0, none⟩ = some (.int .i64 b.base) ∧ w.cell? ⟨W.heap.size, 1, none⟩ = some (.int .i64 b.span) ∧ w.cell? ⟨W.heap.size, 2, none⟩ = some (.int .i64 b.prod) ∧ w.cell? ⟨W.heap.size, 3, none⟩ = some (.int .i64 b.epoch) ∧ w.cell? ⟨W.heap.size, 4, none⟩ = some (.int .i64 b.seq) ∧ w.cell? ⟨W.heap.size, 5, none⟩ = some (.slice B m d)) ∧ RnI W base p W.heap.size K A c b B m d w ∧ W.heap.size ≤ w.heap.size)) (by kernel_rfl) hS0 (fun hHeld => ?_)
    refine takeW (i := 0) (v := ?v1) rfl (by kernel_rfl) (by kernel_rfl) (by kernel_rfl) (fun _ _ _ h => h) (by kernel_rfl) hHeld ?hy1 ?rest1
    case hy1 => (intro w hSw; (try dsimp only at hSw); go_simp; (try with_reducible rfl))
    try simp only [Act.put, List.setIfInBounds_toArray, List.set_cons_zero, List.set_cons_succ]
    refine wpAnyH_ready (rs := [1]) (by kernel_rfl) (by simp) ?_
    refine consL rfl (by kernel_rfl) (fun K hK => ?_) AllReadyH.nil
    go_simp
    (with_reducible refine (cn _).mono ?_)
    rintro en w4 ⟨rfl, hb4⟩
    refine hK.out _ _ (rn_later hHeld hb4) (fun hHeld => ?_)
    clear hK K
    try simp only [Act.put, List.setIfInBounds_toArray, List.set_cons_zero, List.set_cons_succ]
    refine takeW (i := 2) (v := ?v2) rfl (by kernel_rfl) (by kernel_rfl) (by kernel_rfl) (fun _ _ _ h => h) (by kernel_rfl) hHeld ?hy2 ?rest2
    case hy2 => (intro w hSw; (try dsimp only at hSw); go_simp; (try with_reducible rfl))
    try simp only [Act.put, List.setIfInBounds_toArray, List.set_cons_zero, List.set_cons_succ]
    refine takeW (i := 3) (v := ?v3) rfl (by kernel_rfl) (by kernel_rfl) (by kernel_rfl) (fun _ _ _ h => h) (by kernel_rfl) hHeld ?hy3 ?rest3
    case hy3 => (intro w hSw; (try dsimp only at hSw); go_simp; (try with_reducible rfl))
    try simp only [Act.put, List.setIfInBounds_toArray, List.set_cons_zero, List.set_cons_succ]
    refine takeU (i := 4) rfl (by kernel_rfl) (by kernel_rfl) (by kernel_rfl) (fun _ _ _ h => h) (by kernel_rfl) hHeld ?_
    try simp only [Act.put, List.setIfInBounds_toArray, List.set_cons_zero, List.set_cons_succ]
    refine takeU (i := 5) rfl (by kernel_rfl) (by kernel_rfl) (by kernel_rfl) (fun _ _ _ h => h) (by kernel_rfl) hHeld ?_
    try simp only [Act.put, List.setIfInBounds_toArray, List.set_cons_zero, List.set_cons_succ]
    refine takeU (i := 6) rfl (by kernel_rfl) (by kernel_rfl) (by kernel_rfl) (fun _ _ _ h => h) (by kernel_rfl) hHeld ?_
    try simp only [Act.put, List.setIfInBounds_toArray, List.set_cons_zero, List.set_cons_succ]
    refine takeU (i := 7) rfl (by kernel_rfl) (by kernel_rfl) (by kernel_rfl) (fun _ _ _ h => h) (by kernel_rfl) hHeld ?_
    try simp only [Act.put, List.setIfInBounds_toArray, List.set_cons_zero, List.set_cons_succ]
    refine takeU (i := 8) rfl (by kernel_rfl) (by kernel_rfl) (by kernel_rfl) (fun _ _ _ h => h) (by kernel_rfl) hHeld ?_
    try simp only [Act.put, List.setIfInBounds_toArray, List.set_cons_zero, List.set_cons_succ]
    refine takeU (i := 9) rfl (by kernel_rfl) (by kernel_rfl) (by kernel_rfl) (fun _ _ _ h => h) (by kernel_rfl) hHeld ?_
    try simp only [Act.put, List.setIfInBounds_toArray, List.set_cons_zero, List.set_cons_succ]
    refine takeU (i := 10) rfl (by kernel_rfl) (by kernel_rfl) (by kernel_rfl) (fun _ _ _ h => h) (by kernel_rfl) hHeld ?_
    try simp only [Act.put, List.setIfInBounds_toArray, List.set_cons_zero, List.set_cons_succ]
    refine takeW (i := 11) (v := ?v4) rfl (by kernel_rfl) (by kernel_rfl) (by kernel_rfl) (fun _ _ _ h => h) (by kernel_rfl) hHeld ?hy4 ?rest4
    case hy4 => (intro w hSw; (try dsimp only at hSw); go_simp; (try with_reducible rfl))
    try simp only [Act.put, List.setIfInBounds_toArray, List.set_cons_zero, List.set_cons_succ]
    refine wpAnyH_done (by kernel_rfl) ?_ _
    have HH := Lib.hid hHeld
    clear hHeld hS0
    go_wp2_with fail
    go_end0
    exact ⟨rfl, K, A, c, HH.out.2.1.rp, HN.out.symm, HH.out.2.1.keep, HH.out.2.1.bel⟩
  | true =>
    rw [hb] at cn
    obtain ⟨r, hr⟩ : ∃ r, epoG (K.map (·.1)) b.prod = r := ⟨_, rfl⟩
    rw [hr] at ce
    by_cases hf : b.epoch < r
    · have hd : decide (b.epoch < r) = true := decide_eq_true hf
      have HN : Hid (noteG (K.map (·.1)) b = K.map (·.1)) := Lib.hid (by
        unfold noteG
        rw [if_pos hb]
        unfold epoG at hr
        cases hq : findG (K.map (·.1)) b.prod with
        | none =>
          rw [hq] at hr
          obtain ⟨_, b2, _⟩ := bnB_of hb
          simp only at hr
          omega
        | some y =>
          rw [hq] at hr
          simp only at hr ⊢
          rw [if_pos (by omega)])
      clear h hB1 hb hr hf
      go_enter Try.func13, Try.ntmps13
      go_wp2_with fail
      refine wp_region_held_drew (S := (fun w => (w.cell? ⟨W.heap.size, 0, none⟩ = some (.int .i64 b.base) ∧ w.cell? ⟨W.heap.size, 1, none⟩ = some (.int .i64 b.span) ∧ w.cell? ⟨W.heap.size, 2, none⟩ = some (.int .i64 b.prod) ∧ w.cell? ⟨W.heap.size, 3, none⟩ = some (.int .i64 b.epoch) ∧ w.cell? ⟨W.heap.size, 4, none⟩ = some (.int .i64 b.seq) ∧ w.cell? ⟨W.heap.size, 5, none⟩ = some (.slice B m d)) ∧ RnI W base p W.heap.size K A c b B m d w ∧ W.heap.size ≤ w.heap.size)) (by kernel_rfl) hS0 (fun hHeld => ?_)
      refine takeW (i := 0) (v := ?v5) rfl (by kernel_rfl) (by kernel_rfl) (by kernel_rfl) (fun _ _ _ h => h) (by kernel_rfl) hHeld ?hy5 ?rest5
      case hy5 => (intro w hSw; (try dsimp only at hSw); go_simp; (try with_reducible rfl))
      try simp only [Act.put, List.setIfInBounds_toArray, List.set_cons_zero, List.set_cons_succ]
      refine wpAnyH_ready (rs := [1]) (by kernel_rfl) (by simp) ?_
      refine consL rfl (by kernel_rfl) (fun K hK => ?_) AllReadyH.nil
      go_simp
      (with_reducible refine (cn _).mono ?_)
      rintro en w4 ⟨rfl, hb4⟩
      refine hK.out _ _ (rn_later hHeld hb4) (fun hHeld => ?_)
      clear hK K
      try simp only [Act.put, List.setIfInBounds_toArray, List.set_cons_zero, List.set_cons_succ]
      refine takeW (i := 2) (v := ?v6) rfl (by kernel_rfl) (by kernel_rfl) (by kernel_rfl) (fun _ _ _ h => h) (by kernel_rfl) hHeld ?hy6 ?rest6
      case hy6 => (intro w hSw; (try dsimp only at hSw); go_simp; (try with_reducible rfl))
      try simp only [Act.put, List.setIfInBounds_toArray, List.set_cons_zero, List.set_cons_succ]
      refine takeW (i := 3) (v := ?v7) rfl (by kernel_rfl) (by kernel_rfl) (by kernel_rfl) (fun _ _ _ h => h) (by kernel_rfl) hHeld ?hy7 ?rest7
      case hy7 => (intro w hSw; (try dsimp only at hSw); go_simp; (try with_reducible rfl))
      try simp only [Act.put, List.setIfInBounds_toArray, List.set_cons_zero, List.set_cons_succ]
      refine takeW (i := 4) (v := ?v8) rfl (by kernel_rfl) (by kernel_rfl) (by kernel_rfl) (fun _ _ _ h => h) (by kernel_rfl) hHeld ?hy8 ?rest8
      case hy8 => (intro w hSw; (try dsimp only at hSw); go_simp; (try with_reducible rfl))
      try simp only [Act.put, List.setIfInBounds_toArray, List.set_cons_zero, List.set_cons_succ]
      refine takeW (i := 5) (v := ?v9) rfl (by kernel_rfl) (by kernel_rfl) (by kernel_rfl) (fun _ _ _ h => h) (by kernel_rfl) hHeld ?hy9 ?rest9
      case hy9 => (intro w hSw; (try dsimp only at hSw); go_simp; (try with_reducible rfl))
      try simp only [Act.put, List.setIfInBounds_toArray, List.set_cons_zero, List.set_cons_succ]
      refine takeW (i := 6) (v := ?v10) rfl (by kernel_rfl) (by kernel_rfl) (by kernel_rfl) (fun _ _ _ h => h) (by kernel_rfl) hHeld ?hy10 ?rest10
      case hy10 => (intro w hSw; (try dsimp only at hSw); go_simp; (try with_reducible rfl))
      try simp only [Act.put, List.setIfInBounds_toArray, List.set_cons_zero, List.set_cons_succ]
      refine takeW (i := 7) (v := ?v11) rfl (by kernel_rfl) (by kernel_rfl) (by kernel_rfl) (fun _ _ _ h => h) (by kernel_rfl) hHeld ?hy11 ?rest11
      case hy11 => (intro w hSw; (try dsimp only at hSw); go_simp; (try with_reducible rfl))
      try simp only [Act.put, List.setIfInBounds_toArray, List.set_cons_zero, List.set_cons_succ]
      refine takeW (i := 8) (v := ?v12) rfl (by kernel_rfl) (by kernel_rfl) (by kernel_rfl) (fun _ _ _ h => h) (by kernel_rfl) hHeld ?hy12 ?rest12
      case hy12 => (intro w hSw; (try dsimp only at hSw); go_simp; (try with_reducible rfl))
      try simp only [Act.put, List.setIfInBounds_toArray, List.set_cons_zero, List.set_cons_succ]
      refine wpAnyH_ready (rs := [9]) (by kernel_rfl) (by simp) ?_
      refine consL rfl (by kernel_rfl) (fun K hK => ?_) AllReadyH.nil
      go_simp
      (with_reducible refine (ce _ hHeld.2.1.rp).mono ?_)
      rintro en w5 ⟨rfl, rfl⟩
      refine hK.out _ _ (hHeld) (fun hHeld => ?_)
      clear hK K
      try simp only [Act.put, List.setIfInBounds_toArray, List.set_cons_zero, List.set_cons_succ]
      refine takeW (i := 10) (v := ?v13) rfl (by kernel_rfl) (by kernel_rfl) (by kernel_rfl) (fun _ _ _ h => h) (by kernel_rfl) hHeld ?hy13 ?rest13
      case hy13 => (intro w hSw; (try dsimp only at hSw); go_simp; (try with_reducible rfl))
      try simp only [Act.put, List.setIfInBounds_toArray, List.set_cons_zero, List.set_cons_succ]
      refine takeW (i := 11) (v := ?v14) rfl (by kernel_rfl) (by kernel_rfl) (by kernel_rfl) (fun _ _ _ h => h) (by kernel_rfl) hHeld ?hy14 ?rest14
      case hy14 => (intro w hSw; (try dsimp only at hSw); go_simp; (try with_reducible rfl))
      try simp only [Act.put, List.setIfInBounds_toArray, List.set_cons_zero, List.set_cons_succ]
      refine wpAnyH_done (by kernel_rfl) ?_ _
      have HH := Lib.hid hHeld
      clear hHeld hS0
      go_wp2_with fail
      go_end0
      exact ⟨rfl, K, A, c, HH.out.2.1.rp, HN.out.symm, HH.out.2.1.keep, HH.out.2.1.bel⟩
    · have hd : decide (b.epoch < r) = false := decide_eq_false hf
      have hlen5 := Lib.hid (fun x (hx : x ∈ K) => (hG.ghb (List.mem_map.2 ⟨x, hx, rfl⟩ : x.1 ∈ K.map (·.1))).2.2.1.2)
      have cf := fun w (h : RpIs w base p K A c) => rfind_c K A c base p b.prod w h (by omega)
      rcases fst_find (K := K) (n := b.prod) with ⟨e1, e2⟩ | ⟨i, x, e1, hx, hxi, e2⟩
      · rw [e1] at cf
        have HNF := Lib.hid e2
        have HBN := Lib.hid hb
        have HGO := Lib.hid hG
        obtain ⟨k0, hk0⟩ : ∃ k0, (K.takeWhile fun x => decide (x.1.1 < b.prod)).length = k0 := ⟨_, rfl⟩
        obtain ⟨hk0l, hk1, hk2⟩ := twl K b.prod hk0
        have HK1 := Lib.hid hk1
        have HK2 := Lib.hid hk2
        clear h hB1 hb hr e1 e2 hf hk0 hk1 hk2 hG
        go_enter Try.func13, Try.ntmps13
        go_wp2_with fail
        refine wp_region_held_drew (S := (fun w => (w.cell? ⟨W.heap.size, 0, none⟩ = some (.int .i64 b.base) ∧ w.cell? ⟨W.heap.size, 1, none⟩ = some (.int .i64 b.span) ∧ w.cell? ⟨W.heap.size, 2, none⟩ = some (.int .i64 b.prod) ∧ w.cell? ⟨W.heap.size, 3, none⟩ = some (.int .i64 b.epoch) ∧ w.cell? ⟨W.heap.size, 4, none⟩ = some (.int .i64 b.seq) ∧ w.cell? ⟨W.heap.size, 5, none⟩ = some (.slice B m d)) ∧ RnI W base p W.heap.size K A c b B m d w ∧ W.heap.size ≤ w.heap.size)) (by kernel_rfl) hS0 (fun hHeld => ?_)
        refine takeW (i := 0) (v := ?v15) rfl (by kernel_rfl) (by kernel_rfl) (by kernel_rfl) (fun _ _ _ h => h) (by kernel_rfl) hHeld ?hy15 ?rest15
        case hy15 => (intro w hSw; (try dsimp only at hSw); go_simp; (try with_reducible rfl))
        try simp only [Act.put, List.setIfInBounds_toArray, List.set_cons_zero, List.set_cons_succ]
        refine wpAnyH_ready (rs := [1]) (by kernel_rfl) (by simp) ?_
        refine consL rfl (by kernel_rfl) (fun K hK => ?_) AllReadyH.nil
        go_simp
        (with_reducible refine (cn _).mono ?_)
        rintro en w4 ⟨rfl, hb4⟩
        refine hK.out _ _ (rn_later hHeld hb4) (fun hHeld => ?_)
        clear hK K
        try simp only [Act.put, List.setIfInBounds_toArray, List.set_cons_zero, List.set_cons_succ]
        refine takeW (i := 2) (v := ?v16) rfl (by kernel_rfl) (by kernel_rfl) (by kernel_rfl) (fun _ _ _ h => h) (by kernel_rfl) hHeld ?hy16 ?rest16
        case hy16 => (intro w hSw; (try dsimp only at hSw); go_simp; (try with_reducible rfl))
        try simp only [Act.put, List.setIfInBounds_toArray, List.set_cons_zero, List.set_cons_succ]
        refine takeW (i := 3) (v := ?v17) rfl (by kernel_rfl) (by kernel_rfl) (by kernel_rfl) (fun _ _ _ h => h) (by kernel_rfl) hHeld ?hy17 ?rest17
        case hy17 => (intro w hSw; (try dsimp only at hSw); go_simp; (try with_reducible rfl))
        try simp only [Act.put, List.setIfInBounds_toArray, List.set_cons_zero, List.set_cons_succ]
        refine takeW (i := 4) (v := ?v18) rfl (by kernel_rfl) (by kernel_rfl) (by kernel_rfl) (fun _ _ _ h => h) (by kernel_rfl) hHeld ?hy18 ?rest18
        case hy18 => (intro w hSw; (try dsimp only at hSw); go_simp; (try with_reducible rfl))
        try simp only [Act.put, List.setIfInBounds_toArray, List.set_cons_zero, List.set_cons_succ]
        refine takeW (i := 5) (v := ?v19) rfl (by kernel_rfl) (by kernel_rfl) (by kernel_rfl) (fun _ _ _ h => h) (by kernel_rfl) hHeld ?hy19 ?rest19
        case hy19 => (intro w hSw; (try dsimp only at hSw); go_simp; (try with_reducible rfl))
        try simp only [Act.put, List.setIfInBounds_toArray, List.set_cons_zero, List.set_cons_succ]
        refine takeW (i := 6) (v := ?v20) rfl (by kernel_rfl) (by kernel_rfl) (by kernel_rfl) (fun _ _ _ h => h) (by kernel_rfl) hHeld ?hy20 ?rest20
        case hy20 => (intro w hSw; (try dsimp only at hSw); go_simp; (try with_reducible rfl))
        try simp only [Act.put, List.setIfInBounds_toArray, List.set_cons_zero, List.set_cons_succ]
        refine takeW (i := 7) (v := ?v21) rfl (by kernel_rfl) (by kernel_rfl) (by kernel_rfl) (fun _ _ _ h => h) (by kernel_rfl) hHeld ?hy21 ?rest21
        case hy21 => (intro w hSw; (try dsimp only at hSw); go_simp; (try with_reducible rfl))
        try simp only [Act.put, List.setIfInBounds_toArray, List.set_cons_zero, List.set_cons_succ]
        refine takeW (i := 8) (v := ?v22) rfl (by kernel_rfl) (by kernel_rfl) (by kernel_rfl) (fun _ _ _ h => h) (by kernel_rfl) hHeld ?hy22 ?rest22
        case hy22 => (intro w hSw; (try dsimp only at hSw); go_simp; (try with_reducible rfl))
        try simp only [Act.put, List.setIfInBounds_toArray, List.set_cons_zero, List.set_cons_succ]
        refine wpAnyH_ready (rs := [9]) (by kernel_rfl) (by simp) ?_
        refine consL rfl (by kernel_rfl) (fun K hK => ?_) AllReadyH.nil
        go_simp
        (with_reducible refine (ce _ hHeld.2.1.rp).mono ?_)
        rintro en w5 ⟨rfl, rfl⟩
        refine hK.out _ _ (hHeld) (fun hHeld => ?_)
        clear hK K
        try simp only [Act.put, List.setIfInBounds_toArray, List.set_cons_zero, List.set_cons_succ]
        refine takeW (i := 10) (v := ?v23) rfl (by kernel_rfl) (by kernel_rfl) (by kernel_rfl) (fun _ _ _ h => h) (by kernel_rfl) hHeld ?hy23 ?rest23
        case hy23 => (intro w hSw; (try dsimp only at hSw); go_simp; (try with_reducible rfl))
        try simp only [Act.put, List.setIfInBounds_toArray, List.set_cons_zero, List.set_cons_succ]
        refine takeW (i := 11) (v := ?v24) rfl (by kernel_rfl) (by kernel_rfl) (by kernel_rfl) (fun _ _ _ h => h) (by kernel_rfl) hHeld ?hy24 ?rest24
        case hy24 => (intro w hSw; (try dsimp only at hSw); go_simp; (try with_reducible rfl))
        try simp only [Act.put, List.setIfInBounds_toArray, List.set_cons_zero, List.set_cons_succ]
        refine wpAnyH_done (by kernel_rfl) ?_ _
        have HH := Lib.hid hHeld.2.1
        obtain ⟨⟨z0, z1, z2, z3, z4, z5⟩, _, hqlt⟩ := hHeld
        clear hS0 cn ce
        go_wp2_with fail
        with_reducible refine (cf _ HH.out.rp).mono ?_
        rintro en w6 ⟨rfl, rfl⟩
        clear cf z0 z1 z2 z3 z4 z5 hqlt
        go_wp2_with fail
        go_loopw [4] (fun i wr => ∃ k : Nat, i = .int .i64 k ∧ k ≤ k0 ∧ RnI W base p W.heap.size K A c b B m d wr) (fun i _ => k0 - (intOf i).toNat)
        case atStart => exact ⟨0, rfl, Nat.zero_le _, HH.out⟩
        case round =>
          obtain ⟨k, rfl, hk, hI⟩ := hrel
          have HI := Lib.hid hI
          clear hI HH
          obtain ⟨z0, z1, z2, z3, z4, z5⟩ := bx5 HI.out.bx
          have pc := (HI.out.rp.box.cell 0).trans (show _ = some (Value.slice A K.length c) from rfl)
          have hqlt2 := HI.out.bx.lt
          by_cases hkk : k < k0
          · obtain ⟨x, hx, hlt⟩ := HK1.out k hkk
            obtain ⟨g, rfl, _, q0, q1, q2, hgl, hKc⟩ := rk_cell HI.out.rp.row hx
            have hd1 : decide (x.1.1 < b.prod) = true := decide_eq_true hlt
            have hkl : (k : Int) < (K.length : Int) := by omega
            have hkp : (0 : Int) ≤ (k : Int) := by omega
            clear hx hlt
            go_wp2_with fail
            go_quiet (fail)
            have HIa := Lib.hid (HI.out.later (below_drewN (Below.refl wr.heap.size wr) nq) (by omega))
            generalize wr.drewN nq = wa at *
            clear z0 z1 z2 z3 z4 z5 q0 q1 q2 pc HI hqlt2
            go_wp2_with fail
            go_roundw
            case rel => exact ⟨k + 1, by go_num, hkk, HIa.out⟩
            case measure => simp [intOf]; omega
          · obtain rfl : k = k0 := by omega
            have hkp : (0 : Int) ≤ (k : Int) := by omega
            have h8s : ∀ g w, RnI W base p W.heap.size K (some ⟨g, 0, none⟩) c b B m d w → SrcR w (.slice (some ⟨g, 0, none⟩) k c) k (rowK (K.take k)) := fun g w hh => by
              have := src_row hh.rp.row (M := []) (N := K) rfl (K.take k) (K.drop k) (List.take_append_drop k K).symm 0 rfl c
              rwa [List.length_take, Nat.min_eq_left hk0l] at this
            have h10s : ∀ g w cc, RnI W base p W.heap.size K (some ⟨g, 0, none⟩) c b B m d w → SrcR w (.slice (some ⟨g, k * 3, none⟩) (K.length - k) cc) (K.length - k) (rowK (K.drop k)) := fun g w cc hh => by
              have := src_row hh.rp.row (M := K.take k) (N := K.drop k) (List.take_append_drop k K).symm (K.drop k) [] (List.append_nil _).symm (k * 3) (by rw [List.length_take, Nat.min_eq_left hk0l]) cc
              rwa [List.length_drop] at this
            have H8 := Lib.hid h8s
            have H10 := Lib.hid h10s
            rcases nil_or HI.out.rp.row with ⟨rfl, hKn, hc0⟩ | ⟨g0, rfl, hKc⟩
            · have HKn := Lib.hid hKn
              have HC0 := Lib.hid hc0
              obtain rfl : k = 0 := by rw [hKn] at hk0l; simpa using hk0l
              rw [hKn, hc0] at pc
              simp only [List.length_nil] at pc
              clear hKn hc0 H8 H10
              rw [show ((0 : Nat) : Int) = 0 from rfl]
              go_wp2_with fail
              go_quiet (fail)
              have HIa := Lib.hid (HI.out.later (below_drewN (Below.refl wr.heap.size wr) nq) (by omega))
              generalize wr.drewN nq = wa at *
              clear z0 z1 z2 z3 z4 z5 pc HI hqlt2
              obtain ⟨Ao, co, w1_, Ap, cp, w2_, g, c1, w3_, hI⟩ := rn_ins HIa.out hbW hbase (Nat.zero_le _) hl (show SrcR wa (.slice none 0 0) 0 (rowK (K.take 0)) from src_none) (show SrcR wa (.slice none 0 0) (K.length - 0) (rowK (K.drop 0)) from by rw [HKn.out]; exact src_none)
              obtain ⟨K1, hK1⟩ : ∃ K1 : List RK, (K.take 0 ++ ((b.prod, b.epoch, []), Value.slice none 0 0) :: K.drop 0) = K1 := ⟨_, rfl⟩
              obtain ⟨xx, hxx⟩ : ∃ xx : RK, ((b.prod, b.epoch, []), Value.slice none 0 0) = xx := ⟨_, rfl⟩
              rw [hK1] at hI
              have HXi : Hid (K1[0]? = some xx) := Lib.hid (by
                rw [← hK1, List.getElem?_append_right (by rw [List.length_take]; omega), List.length_take, Nat.min_eq_left (by omega), Nat.sub_self, ← hxx]
                rfl)
              have HXP : Hid (xx.1.1 = b.prod) := Lib.hid (by rw [← hxx])
              have hye : xx.1.2.1 = b.epoch := by rw [← hxx]
              have hyl : xx.1.2.2 = [] := by rw [← hxx]
              have HNT : Hid (noteG (K.map (·.1)) b = (K1.map (·.1)).set 0 (b.prod, b.epoch, addL xx.1.2.2 (b.seq, b.base, b.span))) := Lib.hid (by
                rw [hyl, ← hK1, List.map_append, List.map_cons, List.map_take, List.map_drop]
                exact note_ins HBN.out HNF.out (by rw [List.length_map]; omega) (fun j y hj hy => by
                  rw [List.getElem?_map] at hy
                  obtain ⟨x, hx, hlt⟩ := HK1.out j hj
                  rw [hx] at hy
                  injection hy with hy
                  rw [← hy]; exact hlt) (fun y hy => by
                  rw [List.getElem?_map] at hy
                  cases hx : K[0]? with
                  | none => rw [hx] at hy; cases hy
                  | some x =>
                    rw [hx] at hy
                    injection hy with hy
                    rw [← hy]; have := HK2.out x hx; show ¬ x.1.1 < b.prod; omega))
              have hil : 0 < K1.length := (List.getElem?_eq_some_iff.1 HXi.out).1
              have hL5 : xx.1.2.2.length ≤ 5 := by rw [hyl]; exact Nat.zero_le _
              have HL5 := Lib.hid (show xx.1.2.2.length < 5 by rw [hyl]; decide)
              have HYE := Lib.hid hye
              clear hK1 hxx hye hyl
              have HIR := Lib.hid hI
              have hr1 := hI.r1
              have hr2 := hI.r2
              have hr3 := hI.r3
              obtain ⟨z0, z1, z2, z3, z4, z5⟩ := bx5 hI.b1
              have hq1 := hI.b1.lt
              have pc := (HIa.out.rp.box.cell 0).trans (show _ = some (Value.slice none K.length c) from rfl)
              obtain ⟨_, _, hp2, hp0⟩ := hI.p2
              have ep2 : w2_.cell? ⟨p, 0, none⟩ = some (Value.slice none K.length c) := by
                have h1 := hp0
                have h2 := HIa.out.rp.box
                unfold Box at h1 h2
                rw [h2] at h1
                injection h1 with h1
                injection h1 with h1
                rw [← h1] at hp2
                exact (hp2.cell 0).trans rfl
              obtain ⟨v3, hp3⟩ := hI.p3
              have ep3 := (hp3.cell 0).trans (show _ = some v3 from rfl)
              have fp3 := hp3.frozen 0
              clear hI hp2 hp0 hp3
              rw [HKn.out, HC0.out] at pc ep2
              simp only [List.length_nil] at pc ep2
              go_upto_region 11 with (at_builtin; first | refine wpList_append_run rfl (.tmp 48) (.tmp 54) 26 rfl _ _ _ rfl rfl hr1 ?_ | refine wpList_append_run rfl (.tmp 56) (.tmp 62) 26 rfl _ _ _ rfl rfl hr2 ?_ | refine wpList_append_run rfl (.tmp 65) (.tmp 71) 26 rfl _ _ _ rfl rfl hr3 ?_)
              have HH := Lib.hid HIR.out.rn
              generalize (w3_.setCell ⟨p, 0, none⟩ (.slice (some ⟨g, 0, none⟩) K1.length c1)) = wt at *
              clear pc z0 z1 z2 z3 z4 z5 hq1 ep2 ep3 fp3 hr1 hr2 hr3 HIR HIa
              obtain ⟨ga, eA, _, k0, k1, k2, hgl, hKc1⟩ := rk_cell HH.out.rp.row HXi.out
              injection eA with eA
              injection eA with eA
              subst eA
              have hsn := HH.out.rp.sn xx (List.mem_of_getElem? HXi.out)
              obtain ⟨vA, vc, hv⟩ := hsn.slc
              rw [hv] at k2 hsn
              have pc := (HH.out.rp.box.cell 0).trans (show _ = some (Value.slice (some ⟨g, 0, none⟩) K1.length c1) from rfl)
              have HSN := Lib.hid hsn
              have hqlt2 := HH.out.bx.lt
              obtain ⟨z0, z1, z2, z3, z4, z5⟩ := bx5 HH.out.bx
              clear hsn
              have he1 : (xx.1.2.1 == b.epoch) = true := by rw [HYE.out]; exact beq_self_eq_true _
              have hi0 : (0 : Int) ≤ (0 : Int) := by omega
              have hi1 : (0 : Int) < (K1.length : Int) := by omega
              have HN2 := HNT
              have HID : Hid (xx.1.1 = b.prod ∧ xx.1.2.1 = b.epoch) := Lib.hid ⟨HXP.out, HYE.out⟩
              obtain ⟨T0, hT0⟩ : ∃ T0, wt.alloc (.cells #[.int .i64 xx.1.1, .int .i64 xx.1.2.1, .slice vA xx.1.2.2.length vc] 73) = T0 := ⟨_, rfl⟩
              have HU : Hid (RnU W base p wt.heap.size K1 (some ⟨g, 0, none⟩) c1 b B m d xx.1.1 xx.1.2.1 (.slice vA xx.1.2.2.length vc) xx.1.2.2 T0) := Lib.hid (by
                rw [← hT0]
                exact RnU.mk0 HH.out HSN.out hbW)
              have HT0 := Lib.hid hT0
              obtain ⟨A2, c2, w11, hr1, ho1, hb11, HU1⟩ := HU.out.first hL5
              obtain ⟨g3, c3, w13, hr2, ho2, hc3, hb13⟩ := sn_more ho1 hb11.size hL5 (b.seq, b.base, b.span)
              have HU2 := Lib.hid (HU.out.later (hb11.trans hb13))
              have HO2 := Lib.hid ho2
              have HR2 := Lib.hid hr2
              obtain ⟨y0, y1, y2, y3, y4, y5⟩ := bx5 HU1.out.rn.bx
              rw [← hT0] at hr1
              clear hT0 ho1 ho2 hr2 hb11 hb13
              have hqlt3 := HU1.out.rn.bx.lt
              obtain ⟨x0, x1_, x2⟩ := on3 HU2.out.one
              have xf := HU2.out.one.frozen 2
              have HU4 := Lib.hid (fun u' L' (hs : SnAt w13 u' L') => HU2.out.win hs hbW)
              have h5 := HL5.out
              have HS5 : Hid (SnAt w13 (.slice (some ⟨g3, 0, none⟩) (xx.1.2.2.length + 1) c3) (addL xx.1.2.2 (b.seq, b.base, b.span))) := Lib.hid (by
                unfold addL
                rw [if_neg (by omega)]
                exact sn_row HO2.out (by simp))
              have HU5 := Lib.hid (HU4.out _ _ HS5.out)
              go_wp2_with (at_builtin; first | refine wpList_append_run rfl (.tmp 92) (.tmp 94) 71 rfl _ _ _ rfl rfl hr1 ?_ | refine wpList_append_run rfl (.tmp 96) (.tmp 104) 71 rfl _ _ _ rfl rfl HR2.out ?_)
              clear hr1 x0 x1_ x2 xf pc k0 k1 k2 y0 y1 y2 y3 y4 y5 hqlt2 hqlt3
              try clear z0 z1 z2 z3 z4 z5
              have HU6 := HU5
              generalize (w13.setCell ⟨wt.heap.size, 2, none⟩ (.slice (some ⟨g3, 0, none⟩) (xx.1.2.2.length + 1) c3)) = w14 at *
              generalize wt.heap.size = o at *
              have hU6 := HU6.out
              obtain ⟨q0, q1, q2⟩ := on3 hU6.one
              have q3 := (hU6.rn.rp.box.cell 0).trans (show _ = some (Value.slice (some ⟨g, 0, none⟩) K1.length c1) from rfl)
              have hS8 : (fun w => w.cell? ⟨p, 0, none⟩ = some (.slice (some ⟨g, 0, none⟩) K1.length c1) ∧ w.cell? ⟨o, 0, none⟩ = some (.int .i64 xx.1.1) ∧ w.cell? ⟨o, 1, none⟩ = some (.int .i64 xx.1.2.1) ∧ w.cell? ⟨o, 2, none⟩ = some (.slice (some ⟨g3, 0, none⟩) (xx.1.2.2.length + 1) c3)) w14.drew := ⟨q3, q0, q1, q2⟩
              have HST := Lib.hid (RnU.store hU6 hil hbW)
              have hS9 : (fun w => w.cell? ⟨p, 0, none⟩ = some (.slice (some ⟨g, 0, none⟩) K1.length c1) ∧ w.cell? ⟨o, 0, none⟩ = some (.int .i64 xx.1.1) ∧ w.cell? ⟨o, 1, none⟩ = some (.int .i64 xx.1.2.1) ∧ w.cell? ⟨o, 2, none⟩ = some (.slice (some ⟨g3, 0, none⟩) (xx.1.2.2.length + 1) c3)) (((w14.setCell ⟨g, 0 * 3, none⟩ (.int .i64 xx.1.1)).setCell ⟨g, 0 * 3 + 1, none⟩ (.int .i64 xx.1.2.1)).setCell ⟨g, 0 * 3 + 2, none⟩ (.slice (some ⟨g3, 0, none⟩) (xx.1.2.2.length + 1) c3)).drew := by
                have hog : Off (· = g) w14 (((w14.setCell ⟨g, 0 * 3, none⟩ (.int .i64 xx.1.1)).setCell ⟨g, 0 * 3 + 1, none⟩ (.int .i64 xx.1.2.1)).setCell ⟨g, 0 * 3 + 2, none⟩ (.slice (some ⟨g3, 0, none⟩) (xx.1.2.2.length + 1) c3)).drew := ((((Off.refl (· = g) w14).set (p := ⟨g, 0 * 3, none⟩) (.inl rfl) _).set (p := ⟨g, 0 * 3 + 1, none⟩) (.inl rfl) _).set (p := ⟨g, 0 * 3 + 2, none⟩) (.inl rfl) _).drew
                have hgo : g < o := hU6.go g rfl
                have hgp : ¬ p = g := fun e => by
                  have h1 := HST.out.1.box
                  obtain ⟨cur, hc, _⟩ := row_cur HST.out.1.row
                  unfold Box at h1
                  rw [e, hc] at h1
                  injection h1 with h1
                  injection h1 with _ h1 _
                  exact absurd h1 (by decide)
                have c1 := hU6.rn.rp.box.off hog hgp
                have c2 := hU6.one.off hog (by omega)
                obtain ⟨a1, a2, a3⟩ := on3 c2
                exact ⟨(c1.cell 0).trans rfl, a1, a2, a3⟩
              obtain ⟨_, er, _, r0, r1, r2, _, _⟩ := rk_cell hU6.rn.rp.row HXi.out
              injection er with er
              injection er with er
              subst er
              have hfz := fun j => hU6.rn.rp.row.frozenAt j
              have f0 := hfz (0 * 3)
              have f1 := hfz (0 * 3 + 1)
              have f2 := hfz (0 * 3 + 2)
              clear hU6 q0 q1 q2 q3 hfz
              refine wp_region_held_drew (S := (fun w => w.cell? ⟨p, 0, none⟩ = some (.slice (some ⟨g, 0, none⟩) K1.length c1) ∧ w.cell? ⟨o, 0, none⟩ = some (.int .i64 xx.1.1) ∧ w.cell? ⟨o, 1, none⟩ = some (.int .i64 xx.1.2.1) ∧ w.cell? ⟨o, 2, none⟩ = some (.slice (some ⟨g3, 0, none⟩) (xx.1.2.2.length + 1) c3))) (by kernel_rfl) hS8 (fun hHeld2 => ?_)
              refine takeW (i := 0) (v := ?v35) rfl (by kernel_rfl) (by kernel_rfl) (by kernel_rfl) (fun _ _ _ h => h) (by kernel_rfl) hHeld2 ?hy35 ?rest35
              case hy35 => (intro w hSw; (try dsimp only at hSw); go_simp; (try with_reducible rfl))
              try simp only [Act.put, List.setIfInBounds_toArray, List.set_cons_zero, List.set_cons_succ]
              refine takeW (i := 1) (v := ?v36) rfl (by kernel_rfl) (by kernel_rfl) (by kernel_rfl) (fun _ _ _ h => h) (by kernel_rfl) hHeld2 ?hy36 ?rest36
              case hy36 => (intro w hSw; (try dsimp only at hSw); go_simp; (try with_reducible rfl))
              try simp only [Act.put, List.setIfInBounds_toArray, List.set_cons_zero, List.set_cons_succ]
              refine takeW (i := 2) (v := ?v37) rfl (by kernel_rfl) (by kernel_rfl) (by kernel_rfl) (fun _ _ _ h => h) (by kernel_rfl) hHeld2 ?hy37 ?rest37
              case hy37 => (intro w hSw; (try dsimp only at hSw); go_simp; (try with_reducible rfl))
              try simp only [Act.put, List.setIfInBounds_toArray, List.set_cons_zero, List.set_cons_succ]
              refine takeW (i := 3) (v := ?v38) rfl (by kernel_rfl) (by kernel_rfl) (by kernel_rfl) (fun _ _ _ h => h) (by kernel_rfl) hHeld2 ?hy38 ?rest38
              case hy38 => (intro w hSw; (try dsimp only at hSw); go_simp; (try with_reducible rfl))
              try simp only [Act.put, List.setIfInBounds_toArray, List.set_cons_zero, List.set_cons_succ]
              refine takeW (i := 4) (v := ?v39) rfl (by kernel_rfl) (by kernel_rfl) (by kernel_rfl) (fun _ _ _ h => h) (by kernel_rfl) hHeld2 ?hy39 ?rest39
              case hy39 => (intro w hSw; (try dsimp only at hSw); go_simp; (try with_reducible rfl))
              try simp only [Act.put, List.setIfInBounds_toArray, List.set_cons_zero, List.set_cons_succ]
              refine takeW (i := 5) (v := ?v40) rfl (by kernel_rfl) (by kernel_rfl) (by kernel_rfl) (fun _ _ _ h => h) (by kernel_rfl) hHeld2 ?hy40 ?rest40
              case hy40 => (intro w hSw; (try dsimp only at hSw); go_simp; (try with_reducible rfl))
              try simp only [Act.put, List.setIfInBounds_toArray, List.set_cons_zero, List.set_cons_succ]
              refine takeW (i := 6) (v := ?v41) rfl (by kernel_rfl) (by kernel_rfl) (by kernel_rfl) (fun _ _ _ h => h) (by kernel_rfl) hHeld2 ?hy41 ?rest41
              case hy41 => (intro w hSw; (try dsimp only at hSw); go_simp; (try with_reducible rfl))
              try simp only [Act.put, List.setIfInBounds_toArray, List.set_cons_zero, List.set_cons_succ]
              refine wpAnyH_ready (rs := [7]) (by kernel_rfl) (by simp) ?_
              refine consL rfl (by kernel_rfl) (fun K hK => ?_) AllReadyH.nil
              go_simp
              refine hK.out _ _ (hS9) (fun hHeld2 => ?_)
              clear hK K
              try simp only [Act.put, List.setIfInBounds_toArray, List.set_cons_zero, List.set_cons_succ]
              refine wpAnyH_done (by kernel_rfl) ?_ _
              go_end0
              refine ⟨rfl, _, _, _, HST.out.1.later (Below.refl _ _).drew, ?_, HST.out.2.1.trans (KeepO.of_below (Below.refl _ _).drew), HST.out.2.2.drew⟩
              rw [HN2.out, List.map_set]
              all_goals (show List.set _ _ (xx.1.1, xx.1.2.1, _) = _)
              all_goals (first | rfl | rw [HID.out.1, HID.out.2])
            · rcases Nat.lt_or_ge k K.length with hkl | hkl
              · have hkc : k < c := by omega
                obtain ⟨x, hx⟩ : ∃ x, K[k]? = some x := ⟨_, List.getElem?_eq_getElem hkl⟩
                have hge := HK2.out x hx
                have hd1 : decide (x.1.1 < b.prod) = false := decide_eq_false (by omega)
                obtain ⟨g', eg, _, q0, q1, q2, hgl, _⟩ := rk_cell HI.out.rp.row hx
                injection eg with eg
                injection eg with eg
                subst eg
                have hKI : (k : Int) < (K.length : Int) := by omega
                clear hx hge
                go_wp2_with fail
                go_quiet (fail)
                have HIa := Lib.hid (HI.out.later (below_drewN (Below.refl wr.heap.size wr) nq) (by omega))
                generalize wr.drewN nq = wa at *
                clear z0 z1 z2 z3 z4 z5 q0 q1 q2 pc HI hqlt2 hgl
                obtain ⟨Ao, co, w1_, Ap, cp, w2_, g, c1, w3_, hI⟩ := rn_ins HIa.out hbW hbase hk0l hl (H8.out _ _ HIa.out) (H10.out _ _ (c - k) HIa.out)
                obtain ⟨K1, hK1⟩ : ∃ K1 : List RK, (K.take k ++ ((b.prod, b.epoch, []), Value.slice none 0 0) :: K.drop k) = K1 := ⟨_, rfl⟩
                obtain ⟨xx, hxx⟩ : ∃ xx : RK, ((b.prod, b.epoch, []), Value.slice none 0 0) = xx := ⟨_, rfl⟩
                rw [hK1] at hI
                have HXi : Hid (K1[k]? = some xx) := Lib.hid (by
                  rw [← hK1, List.getElem?_append_right (by rw [List.length_take]; omega), List.length_take, Nat.min_eq_left (by omega), Nat.sub_self, ← hxx]
                  rfl)
                have HXP : Hid (xx.1.1 = b.prod) := Lib.hid (by rw [← hxx])
                have hye : xx.1.2.1 = b.epoch := by rw [← hxx]
                have hyl : xx.1.2.2 = [] := by rw [← hxx]
                have HNT : Hid (noteG (K.map (·.1)) b = (K1.map (·.1)).set k (b.prod, b.epoch, addL xx.1.2.2 (b.seq, b.base, b.span))) := Lib.hid (by
                  rw [hyl, ← hK1, List.map_append, List.map_cons, List.map_take, List.map_drop]
                  exact note_ins HBN.out HNF.out (by rw [List.length_map]; omega) (fun j y hj hy => by
                    rw [List.getElem?_map] at hy
                    obtain ⟨x, hx, hlt⟩ := HK1.out j hj
                    rw [hx] at hy
                    injection hy with hy
                    rw [← hy]; exact hlt) (fun y hy => by
                    rw [List.getElem?_map] at hy
                    cases hx : K[k]? with
                    | none => rw [hx] at hy; cases hy
                    | some x =>
                      rw [hx] at hy
                      injection hy with hy
                      rw [← hy]; have := HK2.out x hx; show ¬ x.1.1 < b.prod; omega))
                have hil : k < K1.length := (List.getElem?_eq_some_iff.1 HXi.out).1
                have hL5 : xx.1.2.2.length ≤ 5 := by rw [hyl]; exact Nat.zero_le _
                have HL5 := Lib.hid (show xx.1.2.2.length < 5 by rw [hyl]; decide)
                have HYE := Lib.hid hye
                clear hK1 hxx hye hyl
                have HIR := Lib.hid hI
                have hr1 := hI.r1
                have hr2 := hI.r2
                have hr3 := hI.r3
                obtain ⟨z0, z1, z2, z3, z4, z5⟩ := bx5 hI.b1
                have hq1 := hI.b1.lt
                have pc := (HIa.out.rp.box.cell 0).trans (show _ = some (Value.slice (some ⟨g0, 0, none⟩) K.length c) from rfl)
                obtain ⟨_, _, hp2, hp0⟩ := hI.p2
                have ep2 : w2_.cell? ⟨p, 0, none⟩ = some (Value.slice (some ⟨g0, 0, none⟩) K.length c) := by
                  have h1 := hp0
                  have h2 := HIa.out.rp.box
                  unfold Box at h1 h2
                  rw [h2] at h1
                  injection h1 with h1
                  injection h1 with h1
                  rw [← h1] at hp2
                  exact (hp2.cell 0).trans rfl
                obtain ⟨v3, hp3⟩ := hI.p3
                have ep3 := (hp3.cell 0).trans (show _ = some v3 from rfl)
                have fp3 := hp3.frozen 0
                clear hI hp2 hp0 hp3
                go_upto_region 11 with (at_builtin; first | refine wpList_append_run rfl (.tmp 48) (.tmp 54) 26 rfl _ _ _ rfl rfl hr1 ?_ | refine wpList_append_run rfl (.tmp 56) (.tmp 62) 26 rfl _ _ _ rfl rfl hr2 ?_ | refine wpList_append_run rfl (.tmp 65) (.tmp 71) 26 rfl _ _ _ rfl rfl hr3 ?_)
                have HH := Lib.hid HIR.out.rn
                generalize (w3_.setCell ⟨p, 0, none⟩ (.slice (some ⟨g, 0, none⟩) K1.length c1)) = wt at *
                clear pc z0 z1 z2 z3 z4 z5 hq1 ep2 ep3 fp3 hr1 hr2 hr3 HIR HIa
                obtain ⟨ga, eA, _, k0, k1, k2, hgl, hKc1⟩ := rk_cell HH.out.rp.row HXi.out
                injection eA with eA
                injection eA with eA
                subst eA
                have hsn := HH.out.rp.sn xx (List.mem_of_getElem? HXi.out)
                obtain ⟨vA, vc, hv⟩ := hsn.slc
                rw [hv] at k2 hsn
                have pc := (HH.out.rp.box.cell 0).trans (show _ = some (Value.slice (some ⟨g, 0, none⟩) K1.length c1) from rfl)
                have HSN := Lib.hid hsn
                have hqlt2 := HH.out.bx.lt
                obtain ⟨z0, z1, z2, z3, z4, z5⟩ := bx5 HH.out.bx
                clear hsn
                have he1 : (xx.1.2.1 == b.epoch) = true := by rw [HYE.out]; exact beq_self_eq_true _
                have hi0 : (0 : Int) ≤ (k : Int) := by omega
                have hi1 : (k : Int) < (K1.length : Int) := by omega
                have HN2 := HNT
                have HID : Hid (xx.1.1 = b.prod ∧ xx.1.2.1 = b.epoch) := Lib.hid ⟨HXP.out, HYE.out⟩
                obtain ⟨T0, hT0⟩ : ∃ T0, wt.alloc (.cells #[.int .i64 xx.1.1, .int .i64 xx.1.2.1, .slice vA xx.1.2.2.length vc] 73) = T0 := ⟨_, rfl⟩
                have HU : Hid (RnU W base p wt.heap.size K1 (some ⟨g, 0, none⟩) c1 b B m d xx.1.1 xx.1.2.1 (.slice vA xx.1.2.2.length vc) xx.1.2.2 T0) := Lib.hid (by
                  rw [← hT0]
                  exact RnU.mk0 HH.out HSN.out hbW)
                have HT0 := Lib.hid hT0
                obtain ⟨A2, c2, w11, hr1, ho1, hb11, HU1⟩ := HU.out.first hL5
                obtain ⟨g3, c3, w13, hr2, ho2, hc3, hb13⟩ := sn_more ho1 hb11.size hL5 (b.seq, b.base, b.span)
                have HU2 := Lib.hid (HU.out.later (hb11.trans hb13))
                have HO2 := Lib.hid ho2
                have HR2 := Lib.hid hr2
                obtain ⟨y0, y1, y2, y3, y4, y5⟩ := bx5 HU1.out.rn.bx
                rw [← hT0] at hr1
                clear hT0 ho1 ho2 hr2 hb11 hb13
                have hqlt3 := HU1.out.rn.bx.lt
                obtain ⟨x0, x1_, x2⟩ := on3 HU2.out.one
                have xf := HU2.out.one.frozen 2
                have HU4 := Lib.hid (fun u' L' (hs : SnAt w13 u' L') => HU2.out.win hs hbW)
                have h5 := HL5.out
                have HS5 : Hid (SnAt w13 (.slice (some ⟨g3, 0, none⟩) (xx.1.2.2.length + 1) c3) (addL xx.1.2.2 (b.seq, b.base, b.span))) := Lib.hid (by
                  unfold addL
                  rw [if_neg (by omega)]
                  exact sn_row HO2.out (by simp))
                have HU5 := Lib.hid (HU4.out _ _ HS5.out)
                go_wp2_with (at_builtin; first | refine wpList_append_run rfl (.tmp 92) (.tmp 94) 71 rfl _ _ _ rfl rfl hr1 ?_ | refine wpList_append_run rfl (.tmp 96) (.tmp 104) 71 rfl _ _ _ rfl rfl HR2.out ?_)
                clear hr1 x0 x1_ x2 xf pc k0 k1 k2 y0 y1 y2 y3 y4 y5 hqlt2 hqlt3
                try clear z0 z1 z2 z3 z4 z5
                have HU6 := HU5
                generalize (w13.setCell ⟨wt.heap.size, 2, none⟩ (.slice (some ⟨g3, 0, none⟩) (xx.1.2.2.length + 1) c3)) = w14 at *
                generalize wt.heap.size = o at *
                have hU6 := HU6.out
                obtain ⟨q0, q1, q2⟩ := on3 hU6.one
                have q3 := (hU6.rn.rp.box.cell 0).trans (show _ = some (Value.slice (some ⟨g, 0, none⟩) K1.length c1) from rfl)
                have hS8 : (fun w => w.cell? ⟨p, 0, none⟩ = some (.slice (some ⟨g, 0, none⟩) K1.length c1) ∧ w.cell? ⟨o, 0, none⟩ = some (.int .i64 xx.1.1) ∧ w.cell? ⟨o, 1, none⟩ = some (.int .i64 xx.1.2.1) ∧ w.cell? ⟨o, 2, none⟩ = some (.slice (some ⟨g3, 0, none⟩) (xx.1.2.2.length + 1) c3)) w14.drew := ⟨q3, q0, q1, q2⟩
                have HST := Lib.hid (RnU.store hU6 hil hbW)
                have hS9 : (fun w => w.cell? ⟨p, 0, none⟩ = some (.slice (some ⟨g, 0, none⟩) K1.length c1) ∧ w.cell? ⟨o, 0, none⟩ = some (.int .i64 xx.1.1) ∧ w.cell? ⟨o, 1, none⟩ = some (.int .i64 xx.1.2.1) ∧ w.cell? ⟨o, 2, none⟩ = some (.slice (some ⟨g3, 0, none⟩) (xx.1.2.2.length + 1) c3)) (((w14.setCell ⟨g, k * 3, none⟩ (.int .i64 xx.1.1)).setCell ⟨g, k * 3 + 1, none⟩ (.int .i64 xx.1.2.1)).setCell ⟨g, k * 3 + 2, none⟩ (.slice (some ⟨g3, 0, none⟩) (xx.1.2.2.length + 1) c3)).drew := by
                  have hog : Off (· = g) w14 (((w14.setCell ⟨g, k * 3, none⟩ (.int .i64 xx.1.1)).setCell ⟨g, k * 3 + 1, none⟩ (.int .i64 xx.1.2.1)).setCell ⟨g, k * 3 + 2, none⟩ (.slice (some ⟨g3, 0, none⟩) (xx.1.2.2.length + 1) c3)).drew := ((((Off.refl (· = g) w14).set (p := ⟨g, k * 3, none⟩) (.inl rfl) _).set (p := ⟨g, k * 3 + 1, none⟩) (.inl rfl) _).set (p := ⟨g, k * 3 + 2, none⟩) (.inl rfl) _).drew
                  have hgo : g < o := hU6.go g rfl
                  have hgp : ¬ p = g := fun e => by
                    have h1 := HST.out.1.box
                    obtain ⟨cur, hc, _⟩ := row_cur HST.out.1.row
                    unfold Box at h1
                    rw [e, hc] at h1
                    injection h1 with h1
                    injection h1 with _ h1 _
                    exact absurd h1 (by decide)
                  have c1 := hU6.rn.rp.box.off hog hgp
                  have c2 := hU6.one.off hog (by omega)
                  obtain ⟨a1, a2, a3⟩ := on3 c2
                  exact ⟨(c1.cell 0).trans rfl, a1, a2, a3⟩
                obtain ⟨_, er, _, r0, r1, r2, _, _⟩ := rk_cell hU6.rn.rp.row HXi.out
                injection er with er
                injection er with er
                subst er
                have hfz := fun j => hU6.rn.rp.row.frozenAt j
                have f0 := hfz (k * 3)
                have f1 := hfz (k * 3 + 1)
                have f2 := hfz (k * 3 + 2)
                clear hU6 q0 q1 q2 q3 hfz
                refine wp_region_held_drew (S := (fun w => w.cell? ⟨p, 0, none⟩ = some (.slice (some ⟨g, 0, none⟩) K1.length c1) ∧ w.cell? ⟨o, 0, none⟩ = some (.int .i64 xx.1.1) ∧ w.cell? ⟨o, 1, none⟩ = some (.int .i64 xx.1.2.1) ∧ w.cell? ⟨o, 2, none⟩ = some (.slice (some ⟨g3, 0, none⟩) (xx.1.2.2.length + 1) c3))) (by kernel_rfl) hS8 (fun hHeld2 => ?_)
                refine takeW (i := 0) (v := ?v42) rfl (by kernel_rfl) (by kernel_rfl) (by kernel_rfl) (fun _ _ _ h => h) (by kernel_rfl) hHeld2 ?hy42 ?rest42
                case hy42 => (intro w hSw; (try dsimp only at hSw); go_simp; (try with_reducible rfl))
                try simp only [Act.put, List.setIfInBounds_toArray, List.set_cons_zero, List.set_cons_succ]
                refine takeW (i := 1) (v := ?v43) rfl (by kernel_rfl) (by kernel_rfl) (by kernel_rfl) (fun _ _ _ h => h) (by kernel_rfl) hHeld2 ?hy43 ?rest43
                case hy43 => (intro w hSw; (try dsimp only at hSw); go_simp; (try with_reducible rfl))
                try simp only [Act.put, List.setIfInBounds_toArray, List.set_cons_zero, List.set_cons_succ]
                refine takeW (i := 2) (v := ?v44) rfl (by kernel_rfl) (by kernel_rfl) (by kernel_rfl) (fun _ _ _ h => h) (by kernel_rfl) hHeld2 ?hy44 ?rest44
                case hy44 => (intro w hSw; (try dsimp only at hSw); go_simp; (try with_reducible rfl))
                try simp only [Act.put, List.setIfInBounds_toArray, List.set_cons_zero, List.set_cons_succ]
                refine takeW (i := 3) (v := ?v45) rfl (by kernel_rfl) (by kernel_rfl) (by kernel_rfl) (fun _ _ _ h => h) (by kernel_rfl) hHeld2 ?hy45 ?rest45
                case hy45 => (intro w hSw; (try dsimp only at hSw); go_simp; (try with_reducible rfl))
                try simp only [Act.put, List.setIfInBounds_toArray, List.set_cons_zero, List.set_cons_succ]
                refine takeW (i := 4) (v := ?v46) rfl (by kernel_rfl) (by kernel_rfl) (by kernel_rfl) (fun _ _ _ h => h) (by kernel_rfl) hHeld2 ?hy46 ?rest46
                case hy46 => (intro w hSw; (try dsimp only at hSw); go_simp; (try with_reducible rfl))
                try simp only [Act.put, List.setIfInBounds_toArray, List.set_cons_zero, List.set_cons_succ]
                refine takeW (i := 5) (v := ?v47) rfl (by kernel_rfl) (by kernel_rfl) (by kernel_rfl) (fun _ _ _ h => h) (by kernel_rfl) hHeld2 ?hy47 ?rest47
                case hy47 => (intro w hSw; (try dsimp only at hSw); go_simp; (try with_reducible rfl))
                try simp only [Act.put, List.setIfInBounds_toArray, List.set_cons_zero, List.set_cons_succ]
                refine takeW (i := 6) (v := ?v48) rfl (by kernel_rfl) (by kernel_rfl) (by kernel_rfl) (fun _ _ _ h => h) (by kernel_rfl) hHeld2 ?hy48 ?rest48
                case hy48 => (intro w hSw; (try dsimp only at hSw); go_simp; (try with_reducible rfl))
                try simp only [Act.put, List.setIfInBounds_toArray, List.set_cons_zero, List.set_cons_succ]
                refine wpAnyH_ready (rs := [7]) (by kernel_rfl) (by simp) ?_
                refine consL rfl (by kernel_rfl) (fun K hK => ?_) AllReadyH.nil
                go_simp
                refine hK.out _ _ (hS9) (fun hHeld2 => ?_)
                clear hK K
                try simp only [Act.put, List.setIfInBounds_toArray, List.set_cons_zero, List.set_cons_succ]
                refine wpAnyH_done (by kernel_rfl) ?_ _
                go_end0
                refine ⟨rfl, _, _, _, HST.out.1.later (Below.refl _ _).drew, ?_, HST.out.2.1.trans (KeepO.of_below (Below.refl _ _).drew), HST.out.2.2.drew⟩
                rw [HN2.out, List.map_set]
                all_goals (show List.set _ _ (xx.1.1, xx.1.2.1, _) = _)
                all_goals (first | rfl | rw [HID.out.1, HID.out.2])
              · have hkK : Hid (k = K.length) := Lib.hid (by omega)
                have hKI : ¬ (k : Int) < (K.length : Int) := by omega
                by_cases hkc : k < c
                · go_wp2_with fail
                  have dI : decide ((k : Int) < (K.length : Int)) = false := decide_eq_false (by omega)
                  have dN : decide (k < K.length) = false := decide_eq_false (by omega)
                  go_quiet (fail)
                  have HIa := Lib.hid (HI.out.later (below_drewN (Below.refl wr.heap.size wr) nq) (by omega))
                  generalize wr.drewN nq = wa at *
                  clear z0 z1 z2 z3 z4 z5 pc HI hqlt2 dI dN
                  obtain ⟨Ao, co, w1_, Ap, cp, w2_, g, c1, w3_, hI⟩ := rn_ins HIa.out hbW hbase hk0l hl (H8.out _ _ HIa.out) (src0 (by have := hkK.out; omega) ⟨g0, k * 3, none⟩ (c - k))
                  obtain ⟨K1, hK1⟩ : ∃ K1 : List RK, (K.take k ++ ((b.prod, b.epoch, []), Value.slice none 0 0) :: K.drop k) = K1 := ⟨_, rfl⟩
                  obtain ⟨xx, hxx⟩ : ∃ xx : RK, ((b.prod, b.epoch, []), Value.slice none 0 0) = xx := ⟨_, rfl⟩
                  rw [hK1] at hI
                  have HXi : Hid (K1[k]? = some xx) := Lib.hid (by
                    rw [← hK1, List.getElem?_append_right (by rw [List.length_take]; omega), List.length_take, Nat.min_eq_left (by omega), Nat.sub_self, ← hxx]
                    rfl)
                  have HXP : Hid (xx.1.1 = b.prod) := Lib.hid (by rw [← hxx])
                  have hye : xx.1.2.1 = b.epoch := by rw [← hxx]
                  have hyl : xx.1.2.2 = [] := by rw [← hxx]
                  have HNT : Hid (noteG (K.map (·.1)) b = (K1.map (·.1)).set k (b.prod, b.epoch, addL xx.1.2.2 (b.seq, b.base, b.span))) := Lib.hid (by
                    rw [hyl, ← hK1, List.map_append, List.map_cons, List.map_take, List.map_drop]
                    exact note_ins HBN.out HNF.out (by rw [List.length_map]; omega) (fun j y hj hy => by
                      rw [List.getElem?_map] at hy
                      obtain ⟨x, hx, hlt⟩ := HK1.out j hj
                      rw [hx] at hy
                      injection hy with hy
                      rw [← hy]; exact hlt) (fun y hy => by
                      rw [List.getElem?_map] at hy
                      cases hx : K[k]? with
                      | none => rw [hx] at hy; cases hy
                      | some x =>
                        rw [hx] at hy
                        injection hy with hy
                        rw [← hy]; have := HK2.out x hx; show ¬ x.1.1 < b.prod; omega))
                  have hil : k < K1.length := (List.getElem?_eq_some_iff.1 HXi.out).1
                  have hL5 : xx.1.2.2.length ≤ 5 := by rw [hyl]; exact Nat.zero_le _
                  have HL5 := Lib.hid (show xx.1.2.2.length < 5 by rw [hyl]; decide)
                  have HYE := Lib.hid hye
                  clear hK1 hxx hye hyl
                  have HIR := Lib.hid hI
                  have hr1 := hI.r1
                  have hr2 := hI.r2
                  have hr3 := hI.r3
                  obtain ⟨z0, z1, z2, z3, z4, z5⟩ := bx5 hI.b1
                  have hq1 := hI.b1.lt
                  have pc := (HIa.out.rp.box.cell 0).trans (show _ = some (Value.slice (some ⟨g0, 0, none⟩) K.length c) from rfl)
                  obtain ⟨_, _, hp2, hp0⟩ := hI.p2
                  have ep2 : w2_.cell? ⟨p, 0, none⟩ = some (Value.slice (some ⟨g0, 0, none⟩) K.length c) := by
                    have h1 := hp0
                    have h2 := HIa.out.rp.box
                    unfold Box at h1 h2
                    rw [h2] at h1
                    injection h1 with h1
                    injection h1 with h1
                    rw [← h1] at hp2
                    exact (hp2.cell 0).trans rfl
                  obtain ⟨v3, hp3⟩ := hI.p3
                  have ep3 := (hp3.cell 0).trans (show _ = some v3 from rfl)
                  have fp3 := hp3.frozen 0
                  clear hI hp2 hp0 hp3
                  go_upto_region 11 with (at_builtin; first | refine wpList_append_run rfl (.tmp 48) (.tmp 54) 26 rfl _ _ _ rfl rfl hr1 ?_ | refine wpList_append_run rfl (.tmp 56) (.tmp 62) 26 rfl _ _ _ rfl rfl hr2 ?_ | refine wpList_append_run rfl (.tmp 65) (.tmp 71) 26 rfl _ _ _ rfl rfl hr3 ?_)
                  have HH := Lib.hid HIR.out.rn
                  generalize (w3_.setCell ⟨p, 0, none⟩ (.slice (some ⟨g, 0, none⟩) K1.length c1)) = wt at *
                  clear pc z0 z1 z2 z3 z4 z5 hq1 ep2 ep3 fp3 hr1 hr2 hr3 HIR HIa
                  obtain ⟨ga, eA, _, k0, k1, k2, hgl, hKc1⟩ := rk_cell HH.out.rp.row HXi.out
                  injection eA with eA
                  injection eA with eA
                  subst eA
                  have hsn := HH.out.rp.sn xx (List.mem_of_getElem? HXi.out)
                  obtain ⟨vA, vc, hv⟩ := hsn.slc
                  rw [hv] at k2 hsn
                  have pc := (HH.out.rp.box.cell 0).trans (show _ = some (Value.slice (some ⟨g, 0, none⟩) K1.length c1) from rfl)
                  have HSN := Lib.hid hsn
                  have hqlt2 := HH.out.bx.lt
                  obtain ⟨z0, z1, z2, z3, z4, z5⟩ := bx5 HH.out.bx
                  clear hsn
                  have he1 : (xx.1.2.1 == b.epoch) = true := by rw [HYE.out]; exact beq_self_eq_true _
                  have hi0 : (0 : Int) ≤ (k : Int) := by omega
                  have hi1 : (k : Int) < (K1.length : Int) := by omega
                  have HN2 := HNT
                  have HID : Hid (xx.1.1 = b.prod ∧ xx.1.2.1 = b.epoch) := Lib.hid ⟨HXP.out, HYE.out⟩
                  obtain ⟨T0, hT0⟩ : ∃ T0, wt.alloc (.cells #[.int .i64 xx.1.1, .int .i64 xx.1.2.1, .slice vA xx.1.2.2.length vc] 73) = T0 := ⟨_, rfl⟩
                  have HU : Hid (RnU W base p wt.heap.size K1 (some ⟨g, 0, none⟩) c1 b B m d xx.1.1 xx.1.2.1 (.slice vA xx.1.2.2.length vc) xx.1.2.2 T0) := Lib.hid (by
                    rw [← hT0]
                    exact RnU.mk0 HH.out HSN.out hbW)
                  have HT0 := Lib.hid hT0
                  obtain ⟨A2, c2, w11, hr1, ho1, hb11, HU1⟩ := HU.out.first hL5
                  obtain ⟨g3, c3, w13, hr2, ho2, hc3, hb13⟩ := sn_more ho1 hb11.size hL5 (b.seq, b.base, b.span)
                  have HU2 := Lib.hid (HU.out.later (hb11.trans hb13))
                  have HO2 := Lib.hid ho2
                  have HR2 := Lib.hid hr2
                  obtain ⟨y0, y1, y2, y3, y4, y5⟩ := bx5 HU1.out.rn.bx
                  rw [← hT0] at hr1
                  clear hT0 ho1 ho2 hr2 hb11 hb13
                  have hqlt3 := HU1.out.rn.bx.lt
                  obtain ⟨x0, x1_, x2⟩ := on3 HU2.out.one
                  have xf := HU2.out.one.frozen 2
                  have HU4 := Lib.hid (fun u' L' (hs : SnAt w13 u' L') => HU2.out.win hs hbW)
                  have h5 := HL5.out
                  have HS5 : Hid (SnAt w13 (.slice (some ⟨g3, 0, none⟩) (xx.1.2.2.length + 1) c3) (addL xx.1.2.2 (b.seq, b.base, b.span))) := Lib.hid (by
                    unfold addL
                    rw [if_neg (by omega)]
                    exact sn_row HO2.out (by simp))
                  have HU5 := Lib.hid (HU4.out _ _ HS5.out)
                  go_wp2_with (at_builtin; first | refine wpList_append_run rfl (.tmp 92) (.tmp 94) 71 rfl _ _ _ rfl rfl hr1 ?_ | refine wpList_append_run rfl (.tmp 96) (.tmp 104) 71 rfl _ _ _ rfl rfl HR2.out ?_)
                  clear hr1 x0 x1_ x2 xf pc k0 k1 k2 y0 y1 y2 y3 y4 y5 hqlt2 hqlt3
                  try clear z0 z1 z2 z3 z4 z5
                  have HU6 := HU5
                  generalize (w13.setCell ⟨wt.heap.size, 2, none⟩ (.slice (some ⟨g3, 0, none⟩) (xx.1.2.2.length + 1) c3)) = w14 at *
                  generalize wt.heap.size = o at *
                  have hU6 := HU6.out
                  obtain ⟨q0, q1, q2⟩ := on3 hU6.one
                  have q3 := (hU6.rn.rp.box.cell 0).trans (show _ = some (Value.slice (some ⟨g, 0, none⟩) K1.length c1) from rfl)
                  have hS8 : (fun w => w.cell? ⟨p, 0, none⟩ = some (.slice (some ⟨g, 0, none⟩) K1.length c1) ∧ w.cell? ⟨o, 0, none⟩ = some (.int .i64 xx.1.1) ∧ w.cell? ⟨o, 1, none⟩ = some (.int .i64 xx.1.2.1) ∧ w.cell? ⟨o, 2, none⟩ = some (.slice (some ⟨g3, 0, none⟩) (xx.1.2.2.length + 1) c3)) w14.drew := ⟨q3, q0, q1, q2⟩
                  have HST := Lib.hid (RnU.store hU6 hil hbW)
                  have hS9 : (fun w => w.cell? ⟨p, 0, none⟩ = some (.slice (some ⟨g, 0, none⟩) K1.length c1) ∧ w.cell? ⟨o, 0, none⟩ = some (.int .i64 xx.1.1) ∧ w.cell? ⟨o, 1, none⟩ = some (.int .i64 xx.1.2.1) ∧ w.cell? ⟨o, 2, none⟩ = some (.slice (some ⟨g3, 0, none⟩) (xx.1.2.2.length + 1) c3)) (((w14.setCell ⟨g, k * 3, none⟩ (.int .i64 xx.1.1)).setCell ⟨g, k * 3 + 1, none⟩ (.int .i64 xx.1.2.1)).setCell ⟨g, k * 3 + 2, none⟩ (.slice (some ⟨g3, 0, none⟩) (xx.1.2.2.length + 1) c3)).drew := by
                    have hog : Off (· = g) w14 (((w14.setCell ⟨g, k * 3, none⟩ (.int .i64 xx.1.1)).setCell ⟨g, k * 3 + 1, none⟩ (.int .i64 xx.1.2.1)).setCell ⟨g, k * 3 + 2, none⟩ (.slice (some ⟨g3, 0, none⟩) (xx.1.2.2.length + 1) c3)).drew := ((((Off.refl (· = g) w14).set (p := ⟨g, k * 3, none⟩) (.inl rfl) _).set (p := ⟨g, k * 3 + 1, none⟩) (.inl rfl) _).set (p := ⟨g, k * 3 + 2, none⟩) (.inl rfl) _).drew
                    have hgo : g < o := hU6.go g rfl
                    have hgp : ¬ p = g := fun e => by
                      have h1 := HST.out.1.box
                      obtain ⟨cur, hc, _⟩ := row_cur HST.out.1.row
                      unfold Box at h1
                      rw [e, hc] at h1
                      injection h1 with h1
                      injection h1 with _ h1 _
                      exact absurd h1 (by decide)
                    have c1 := hU6.rn.rp.box.off hog hgp
                    have c2 := hU6.one.off hog (by omega)
                    obtain ⟨a1, a2, a3⟩ := on3 c2
                    exact ⟨(c1.cell 0).trans rfl, a1, a2, a3⟩
                  obtain ⟨_, er, _, r0, r1, r2, _, _⟩ := rk_cell hU6.rn.rp.row HXi.out
                  injection er with er
                  injection er with er
                  subst er
                  have hfz := fun j => hU6.rn.rp.row.frozenAt j
                  have f0 := hfz (k * 3)
                  have f1 := hfz (k * 3 + 1)
                  have f2 := hfz (k * 3 + 2)
                  clear hU6 q0 q1 q2 q3 hfz
                  refine wp_region_held_drew (S := (fun w => w.cell? ⟨p, 0, none⟩ = some (.slice (some ⟨g, 0, none⟩) K1.length c1) ∧ w.cell? ⟨o, 0, none⟩ = some (.int .i64 xx.1.1) ∧ w.cell? ⟨o, 1, none⟩ = some (.int .i64 xx.1.2.1) ∧ w.cell? ⟨o, 2, none⟩ = some (.slice (some ⟨g3, 0, none⟩) (xx.1.2.2.length + 1) c3))) (by kernel_rfl) hS8 (fun hHeld2 => ?_)
                  refine takeW (i := 0) (v := ?v49) rfl (by kernel_rfl) (by kernel_rfl) (by kernel_rfl) (fun _ _ _ h => h) (by kernel_rfl) hHeld2 ?hy49 ?rest49
                  case hy49 => (intro w hSw; (try dsimp only at hSw); go_simp; (try with_reducible rfl))
                  try simp only [Act.put, List.setIfInBounds_toArray, List.set_cons_zero, List.set_cons_succ]
                  refine takeW (i := 1) (v := ?v50) rfl (by kernel_rfl) (by kernel_rfl) (by kernel_rfl) (fun _ _ _ h => h) (by kernel_rfl) hHeld2 ?hy50 ?rest50
                  case hy50 => (intro w hSw; (try dsimp only at hSw); go_simp; (try with_reducible rfl))
                  try simp only [Act.put, List.setIfInBounds_toArray, List.set_cons_zero, List.set_cons_succ]
                  refine takeW (i := 2) (v := ?v51) rfl (by kernel_rfl) (by kernel_rfl) (by kernel_rfl) (fun _ _ _ h => h) (by kernel_rfl) hHeld2 ?hy51 ?rest51
                  case hy51 => (intro w hSw; (try dsimp only at hSw); go_simp; (try with_reducible rfl))
                  try simp only [Act.put, List.setIfInBounds_toArray, List.set_cons_zero, List.set_cons_succ]
                  refine takeW (i := 3) (v := ?v52) rfl (by kernel_rfl) (by kernel_rfl) (by kernel_rfl) (fun _ _ _ h => h) (by kernel_rfl) hHeld2 ?hy52 ?rest52
                  case hy52 => (intro w hSw; (try dsimp only at hSw); go_simp; (try with_reducible rfl))
                  try simp only [Act.put, List.setIfInBounds_toArray, List.set_cons_zero, List.set_cons_succ]
                  refine takeW (i := 4) (v := ?v53) rfl (by kernel_rfl) (by kernel_rfl) (by kernel_rfl) (fun _ _ _ h => h) (by kernel_rfl) hHeld2 ?hy53 ?rest53
                  case hy53 => (intro w hSw; (try dsimp only at hSw); go_simp; (try with_reducible rfl))
                  try simp only [Act.put, List.setIfInBounds_toArray, List.set_cons_zero, List.set_cons_succ]
                  refine takeW (i := 5) (v := ?v54) rfl (by kernel_rfl) (by kernel_rfl) (by kernel_rfl) (fun _ _ _ h => h) (by kernel_rfl) hHeld2 ?hy54 ?rest54
                  case hy54 => (intro w hSw; (try dsimp only at hSw); go_simp; (try with_reducible rfl))
                  try simp only [Act.put, List.setIfInBounds_toArray, List.set_cons_zero, List.set_cons_succ]
                  refine takeW (i := 6) (v := ?v55) rfl (by kernel_rfl) (by kernel_rfl) (by kernel_rfl) (fun _ _ _ h => h) (by kernel_rfl) hHeld2 ?hy55 ?rest55
                  case hy55 => (intro w hSw; (try dsimp only at hSw); go_simp; (try with_reducible rfl))
                  try simp only [Act.put, List.setIfInBounds_toArray, List.set_cons_zero, List.set_cons_succ]
                  refine wpAnyH_ready (rs := [7]) (by kernel_rfl) (by simp) ?_
                  refine consL rfl (by kernel_rfl) (fun K hK => ?_) AllReadyH.nil
                  go_simp
                  refine hK.out _ _ (hS9) (fun hHeld2 => ?_)
                  clear hK K
                  try simp only [Act.put, List.setIfInBounds_toArray, List.set_cons_zero, List.set_cons_succ]
                  refine wpAnyH_done (by kernel_rfl) ?_ _
                  go_end0
                  refine ⟨rfl, _, _, _, HST.out.1.later (Below.refl _ _).drew, ?_, HST.out.2.1.trans (KeepO.of_below (Below.refl _ _).drew), HST.out.2.2.drew⟩
                  rw [HN2.out, List.map_set]
                  all_goals (show List.set _ _ (xx.1.1, xx.1.2.1, _) = _)
                  all_goals (first | rfl | rw [HID.out.1, HID.out.2])
                · obtain rfl : c = k := by have := hkK.out; omega
                  clear hkc
                  go_wp2_with fail
                  have dI : decide ((c : Int) < (K.length : Int)) = false := decide_eq_false (by omega)
                  have dN : decide (c < K.length) = false := decide_eq_false (by omega)
                  go_quiet (fail)
                  have HIa := Lib.hid (HI.out.later (below_drewN (Below.refl wr.heap.size wr) nq) (by omega))
                  generalize wr.drewN nq = wa at *
                  clear z0 z1 z2 z3 z4 z5 pc HI hqlt2 dI dN
                  obtain ⟨Ao, co, w1_, Ap, cp, w2_, g, c1, w3_, hI⟩ := rn_ins HIa.out hbW hbase hk0l hl (H8.out _ _ HIa.out) (src0 (by have := hkK.out; omega) ⟨g0, 0, none⟩ 0)
                  obtain ⟨K1, hK1⟩ : ∃ K1 : List RK, (K.take c ++ ((b.prod, b.epoch, []), Value.slice none 0 0) :: K.drop c) = K1 := ⟨_, rfl⟩
                  obtain ⟨xx, hxx⟩ : ∃ xx : RK, ((b.prod, b.epoch, []), Value.slice none 0 0) = xx := ⟨_, rfl⟩
                  rw [hK1] at hI
                  have HXi : Hid (K1[c]? = some xx) := Lib.hid (by
                    rw [← hK1, List.getElem?_append_right (by rw [List.length_take]; omega), List.length_take, Nat.min_eq_left (by omega), Nat.sub_self, ← hxx]
                    rfl)
                  have HXP : Hid (xx.1.1 = b.prod) := Lib.hid (by rw [← hxx])
                  have hye : xx.1.2.1 = b.epoch := by rw [← hxx]
                  have hyl : xx.1.2.2 = [] := by rw [← hxx]
                  have HNT : Hid (noteG (K.map (·.1)) b = (K1.map (·.1)).set c (b.prod, b.epoch, addL xx.1.2.2 (b.seq, b.base, b.span))) := Lib.hid (by
                    rw [hyl, ← hK1, List.map_append, List.map_cons, List.map_take, List.map_drop]
                    exact note_ins HBN.out HNF.out (by rw [List.length_map]; omega) (fun j y hj hy => by
                      rw [List.getElem?_map] at hy
                      obtain ⟨x, hx, hlt⟩ := HK1.out j hj
                      rw [hx] at hy
                      injection hy with hy
                      rw [← hy]; exact hlt) (fun y hy => by
                      rw [List.getElem?_map] at hy
                      cases hx : K[c]? with
                      | none => rw [hx] at hy; cases hy
                      | some x =>
                        rw [hx] at hy
                        injection hy with hy
                        rw [← hy]; have := HK2.out x hx; show ¬ x.1.1 < b.prod; omega))
                  have hil : c < K1.length := (List.getElem?_eq_some_iff.1 HXi.out).1
                  have hL5 : xx.1.2.2.length ≤ 5 := by rw [hyl]; exact Nat.zero_le _
                  have HL5 := Lib.hid (show xx.1.2.2.length < 5 by rw [hyl]; decide)
                  have HYE := Lib.hid hye
                  clear hK1 hxx hye hyl
                  have HIR := Lib.hid hI
                  have hr1 := hI.r1
                  have hr2 := hI.r2
                  have hr3 := hI.r3
                  obtain ⟨z0, z1, z2, z3, z4, z5⟩ := bx5 hI.b1
                  have hq1 := hI.b1.lt
                  have pc := (HIa.out.rp.box.cell 0).trans (show _ = some (Value.slice (some ⟨g0, 0, none⟩) K.length c) from rfl)
                  obtain ⟨_, _, hp2, hp0⟩ := hI.p2
                  have ep2 : w2_.cell? ⟨p, 0, none⟩ = some (Value.slice (some ⟨g0, 0, none⟩) K.length c) := by
                    have h1 := hp0
                    have h2 := HIa.out.rp.box
                    unfold Box at h1 h2
                    rw [h2] at h1
                    injection h1 with h1
                    injection h1 with h1
                    rw [← h1] at hp2
                    exact (hp2.cell 0).trans rfl
                  obtain ⟨v3, hp3⟩ := hI.p3
                  have ep3 := (hp3.cell 0).trans (show _ = some v3 from rfl)
                  have fp3 := hp3.frozen 0
                  clear hI hp2 hp0 hp3
                  go_upto_region 11 with (at_builtin; first | refine wpList_append_run rfl (.tmp 48) (.tmp 54) 26 rfl _ _ _ rfl rfl hr1 ?_ | refine wpList_append_run rfl (.tmp 56) (.tmp 62) 26 rfl _ _ _ rfl rfl hr2 ?_ | refine wpList_append_run rfl (.tmp 65) (.tmp 71) 26 rfl _ _ _ rfl rfl hr3 ?_)
                  have HH := Lib.hid HIR.out.rn
                  generalize (w3_.setCell ⟨p, 0, none⟩ (.slice (some ⟨g, 0, none⟩) K1.length c1)) = wt at *
                  clear pc z0 z1 z2 z3 z4 z5 hq1 ep2 ep3 fp3 hr1 hr2 hr3 HIR HIa
                  obtain ⟨ga, eA, _, k0, k1, k2, hgl, hKc1⟩ := rk_cell HH.out.rp.row HXi.out
                  injection eA with eA
                  injection eA with eA
                  subst eA
                  have hsn := HH.out.rp.sn xx (List.mem_of_getElem? HXi.out)
                  obtain ⟨vA, vc, hv⟩ := hsn.slc
                  rw [hv] at k2 hsn
                  have pc := (HH.out.rp.box.cell 0).trans (show _ = some (Value.slice (some ⟨g, 0, none⟩) K1.length c1) from rfl)
                  have HSN := Lib.hid hsn
                  have hqlt2 := HH.out.bx.lt
                  obtain ⟨z0, z1, z2, z3, z4, z5⟩ := bx5 HH.out.bx
                  clear hsn
                  have he1 : (xx.1.2.1 == b.epoch) = true := by rw [HYE.out]; exact beq_self_eq_true _
                  have hi0 : (0 : Int) ≤ (c : Int) := by omega
                  have hi1 : (c : Int) < (K1.length : Int) := by omega
                  have HN2 := HNT
                  have HID : Hid (xx.1.1 = b.prod ∧ xx.1.2.1 = b.epoch) := Lib.hid ⟨HXP.out, HYE.out⟩
                  obtain ⟨T0, hT0⟩ : ∃ T0, wt.alloc (.cells #[.int .i64 xx.1.1, .int .i64 xx.1.2.1, .slice vA xx.1.2.2.length vc] 73) = T0 := ⟨_, rfl⟩
                  have HU : Hid (RnU W base p wt.heap.size K1 (some ⟨g, 0, none⟩) c1 b B m d xx.1.1 xx.1.2.1 (.slice vA xx.1.2.2.length vc) xx.1.2.2 T0) := Lib.hid (by
                    rw [← hT0]
                    exact RnU.mk0 HH.out HSN.out hbW)
                  have HT0 := Lib.hid hT0
                  obtain ⟨A2, c2, w11, hr1, ho1, hb11, HU1⟩ := HU.out.first hL5
                  obtain ⟨g3, c3, w13, hr2, ho2, hc3, hb13⟩ := sn_more ho1 hb11.size hL5 (b.seq, b.base, b.span)
                  have HU2 := Lib.hid (HU.out.later (hb11.trans hb13))
                  have HO2 := Lib.hid ho2
                  have HR2 := Lib.hid hr2
                  obtain ⟨y0, y1, y2, y3, y4, y5⟩ := bx5 HU1.out.rn.bx
                  rw [← hT0] at hr1
                  clear hT0 ho1 ho2 hr2 hb11 hb13
                  have hqlt3 := HU1.out.rn.bx.lt
                  obtain ⟨x0, x1_, x2⟩ := on3 HU2.out.one
                  have xf := HU2.out.one.frozen 2
                  have HU4 := Lib.hid (fun u' L' (hs : SnAt w13 u' L') => HU2.out.win hs hbW)
                  have h5 := HL5.out
                  have HS5 : Hid (SnAt w13 (.slice (some ⟨g3, 0, none⟩) (xx.1.2.2.length + 1) c3) (addL xx.1.2.2 (b.seq, b.base, b.span))) := Lib.hid (by
                    unfold addL
                    rw [if_neg (by omega)]
                    exact sn_row HO2.out (by simp))
                  have HU5 := Lib.hid (HU4.out _ _ HS5.out)
                  go_wp2_with (at_builtin; first | refine wpList_append_run rfl (.tmp 92) (.tmp 94) 71 rfl _ _ _ rfl rfl hr1 ?_ | refine wpList_append_run rfl (.tmp 96) (.tmp 104) 71 rfl _ _ _ rfl rfl HR2.out ?_)
                  clear hr1 x0 x1_ x2 xf pc k0 k1 k2 y0 y1 y2 y3 y4 y5 hqlt2 hqlt3
                  try clear z0 z1 z2 z3 z4 z5
                  have HU6 := HU5
                  generalize (w13.setCell ⟨wt.heap.size, 2, none⟩ (.slice (some ⟨g3, 0, none⟩) (xx.1.2.2.length + 1) c3)) = w14 at *
                  generalize wt.heap.size = o at *
                  have hU6 := HU6.out
                  obtain ⟨q0, q1, q2⟩ := on3 hU6.one
                  have q3 := (hU6.rn.rp.box.cell 0).trans (show _ = some (Value.slice (some ⟨g, 0, none⟩) K1.length c1) from rfl)
                  have hS8 : (fun w => w.cell? ⟨p, 0, none⟩ = some (.slice (some ⟨g, 0, none⟩) K1.length c1) ∧ w.cell? ⟨o, 0, none⟩ = some (.int .i64 xx.1.1) ∧ w.cell? ⟨o, 1, none⟩ = some (.int .i64 xx.1.2.1) ∧ w.cell? ⟨o, 2, none⟩ = some (.slice (some ⟨g3, 0, none⟩) (xx.1.2.2.length + 1) c3)) w14.drew := ⟨q3, q0, q1, q2⟩
                  have HST := Lib.hid (RnU.store hU6 hil hbW)
                  have hS9 : (fun w => w.cell? ⟨p, 0, none⟩ = some (.slice (some ⟨g, 0, none⟩) K1.length c1) ∧ w.cell? ⟨o, 0, none⟩ = some (.int .i64 xx.1.1) ∧ w.cell? ⟨o, 1, none⟩ = some (.int .i64 xx.1.2.1) ∧ w.cell? ⟨o, 2, none⟩ = some (.slice (some ⟨g3, 0, none⟩) (xx.1.2.2.length + 1) c3)) (((w14.setCell ⟨g, c * 3, none⟩ (.int .i64 xx.1.1)).setCell ⟨g, c * 3 + 1, none⟩ (.int .i64 xx.1.2.1)).setCell ⟨g, c * 3 + 2, none⟩ (.slice (some ⟨g3, 0, none⟩) (xx.1.2.2.length + 1) c3)).drew := by
                    have hog : Off (· = g) w14 (((w14.setCell ⟨g, c * 3, none⟩ (.int .i64 xx.1.1)).setCell ⟨g, c * 3 + 1, none⟩ (.int .i64 xx.1.2.1)).setCell ⟨g, c * 3 + 2, none⟩ (.slice (some ⟨g3, 0, none⟩) (xx.1.2.2.length + 1) c3)).drew := ((((Off.refl (· = g) w14).set (p := ⟨g, c * 3, none⟩) (.inl rfl) _).set (p := ⟨g, c * 3 + 1, none⟩) (.inl rfl) _).set (p := ⟨g, c * 3 + 2, none⟩) (.inl rfl) _).drew
                    have hgo : g < o := hU6.go g rfl
                    have hgp : ¬ p = g := fun e => by
                      have h1 := HST.out.1.box
                      obtain ⟨cur, hc, _⟩ := row_cur HST.out.1.row
                      unfold Box at h1
                      rw [e, hc] at h1
                      injection h1 with h1
                      injection h1 with _ h1 _
                      exact absurd h1 (by decide)
                    have c1 := hU6.rn.rp.box.off hog hgp
                    have c2 := hU6.one.off hog (by omega)
                    obtain ⟨a1, a2, a3⟩ := on3 c2
                    exact ⟨(c1.cell 0).trans rfl, a1, a2, a3⟩
                  obtain ⟨_, er, _, r0, r1, r2, _, _⟩ := rk_cell hU6.rn.rp.row HXi.out
                  injection er with er
                  injection er with er
                  subst er
                  have hfz := fun j => hU6.rn.rp.row.frozenAt j
                  have f0 := hfz (c * 3)
                  have f1 := hfz (c * 3 + 1)
                  have f2 := hfz (c * 3 + 2)
                  clear hU6 q0 q1 q2 q3 hfz
                  refine wp_region_held_drew (S := (fun w => w.cell? ⟨p, 0, none⟩ = some (.slice (some ⟨g, 0, none⟩) K1.length c1) ∧ w.cell? ⟨o, 0, none⟩ = some (.int .i64 xx.1.1) ∧ w.cell? ⟨o, 1, none⟩ = some (.int .i64 xx.1.2.1) ∧ w.cell? ⟨o, 2, none⟩ = some (.slice (some ⟨g3, 0, none⟩) (xx.1.2.2.length + 1) c3))) (by kernel_rfl) hS8 (fun hHeld2 => ?_)
                  refine takeW (i := 0) (v := ?v56) rfl (by kernel_rfl) (by kernel_rfl) (by kernel_rfl) (fun _ _ _ h => h) (by kernel_rfl) hHeld2 ?hy56 ?rest56
                  case hy56 => (intro w hSw; (try dsimp only at hSw); go_simp; (try with_reducible rfl))
                  try simp only [Act.put, List.setIfInBounds_toArray, List.set_cons_zero, List.set_cons_succ]
                  refine takeW (i := 1) (v := ?v57) rfl (by kernel_rfl) (by kernel_rfl) (by kernel_rfl) (fun _ _ _ h => h) (by kernel_rfl) hHeld2 ?hy57 ?rest57
                  case hy57 => (intro w hSw; (try dsimp only at hSw); go_simp; (try with_reducible rfl))
                  try simp only [Act.put, List.setIfInBounds_toArray, List.set_cons_zero, List.set_cons_succ]
                  refine takeW (i := 2) (v := ?v58) rfl (by kernel_rfl) (by kernel_rfl) (by kernel_rfl) (fun _ _ _ h => h) (by kernel_rfl) hHeld2 ?hy58 ?rest58
                  case hy58 => (intro w hSw; (try dsimp only at hSw); go_simp; (try with_reducible rfl))
                  try simp only [Act.put, List.setIfInBounds_toArray, List.set_cons_zero, List.set_cons_succ]
                  refine takeW (i := 3) (v := ?v59) rfl (by kernel_rfl) (by kernel_rfl) (by kernel_rfl) (fun _ _ _ h => h) (by kernel_rfl) hHeld2 ?hy59 ?rest59
                  case hy59 => (intro w hSw; (try dsimp only at hSw); go_simp; (try with_reducible rfl))
                  try simp only [Act.put, List.setIfInBounds_toArray, List.set_cons_zero, List.set_cons_succ]
                  refine takeW (i := 4) (v := ?v60) rfl (by kernel_rfl) (by kernel_rfl) (by kernel_rfl) (fun _ _ _ h => h) (by kernel_rfl) hHeld2 ?hy60 ?rest60
                  case hy60 => (intro w hSw; (try dsimp only at hSw); go_simp; (try with_reducible rfl))
                  try simp only [Act.put, List.setIfInBounds_toArray, List.set_cons_zero, List.set_cons_succ]
                  refine takeW (i := 5) (v := ?v61) rfl (by kernel_rfl) (by kernel_rfl) (by kernel_rfl) (fun _ _ _ h => h) (by kernel_rfl) hHeld2 ?hy61 ?rest61
                  case hy61 => (intro w hSw; (try dsimp only at hSw); go_simp; (try with_reducible rfl))
                  try simp only [Act.put, List.setIfInBounds_toArray, List.set_cons_zero, List.set_cons_succ]
                  refine takeW (i := 6) (v := ?v62) rfl (by kernel_rfl) (by kernel_rfl) (by kernel_rfl) (fun _ _ _ h => h) (by kernel_rfl) hHeld2 ?hy62 ?rest62
                  case hy62 => (intro w hSw; (try dsimp only at hSw); go_simp; (try with_reducible rfl))
                  try simp only [Act.put, List.setIfInBounds_toArray, List.set_cons_zero, List.set_cons_succ]
                  refine wpAnyH_ready (rs := [7]) (by kernel_rfl) (by simp) ?_
                  refine consL rfl (by kernel_rfl) (fun K hK => ?_) AllReadyH.nil
                  go_simp
                  refine hK.out _ _ (hS9) (fun hHeld2 => ?_)
                  clear hK K
                  try simp only [Act.put, List.setIfInBounds_toArray, List.set_cons_zero, List.set_cons_succ]
                  refine wpAnyH_done (by kernel_rfl) ?_ _
                  go_end0
                  refine ⟨rfl, _, _, _, HST.out.1.later (Below.refl _ _).drew, ?_, HST.out.2.1.trans (KeepO.of_below (Below.refl _ _).drew), HST.out.2.2.drew⟩
                  rw [HN2.out, List.map_set]
                  all_goals (show List.set _ _ (xx.1.1, xx.1.2.1, _) = _)
                  all_goals (first | rfl | rw [HID.out.1, HID.out.2])
      · rw [e1] at cf
        have hre : r = x.1.2.1 := by rw [← hr]; unfold epoG; rw [e2]
        have HXi := Lib.hid hx
        have HXP := Lib.hid hxi
        have HNT := Lib.hid (note_set (b := b) hG hb (fst_at hx) e2 (by rw [← hre]; exact hf))
        have hil : i < K.length := (List.getElem?_eq_some_iff.1 hx).1
        have hL5 := hlen5.out x (List.mem_of_getElem? hx)
        have hi0 : (0 : Int) ≤ (i : Int) := by omega
        have hi1 : (i : Int) < (K.length : Int) := by omega
        clear h hB1 hb hr hre hx e1 e2 hxi hf
        go_enter Try.func13, Try.ntmps13
        go_wp2_with fail
        refine wp_region_held_drew (S := (fun w => (w.cell? ⟨W.heap.size, 0, none⟩ = some (.int .i64 b.base) ∧ w.cell? ⟨W.heap.size, 1, none⟩ = some (.int .i64 b.span) ∧ w.cell? ⟨W.heap.size, 2, none⟩ = some (.int .i64 b.prod) ∧ w.cell? ⟨W.heap.size, 3, none⟩ = some (.int .i64 b.epoch) ∧ w.cell? ⟨W.heap.size, 4, none⟩ = some (.int .i64 b.seq) ∧ w.cell? ⟨W.heap.size, 5, none⟩ = some (.slice B m d)) ∧ RnI W base p W.heap.size K A c b B m d w ∧ W.heap.size ≤ w.heap.size)) (by kernel_rfl) hS0 (fun hHeld => ?_)
        refine takeW (i := 0) (v := ?v25) rfl (by kernel_rfl) (by kernel_rfl) (by kernel_rfl) (fun _ _ _ h => h) (by kernel_rfl) hHeld ?hy25 ?rest25
        case hy25 => (intro w hSw; (try dsimp only at hSw); go_simp; (try with_reducible rfl))
        try simp only [Act.put, List.setIfInBounds_toArray, List.set_cons_zero, List.set_cons_succ]
        refine wpAnyH_ready (rs := [1]) (by kernel_rfl) (by simp) ?_
        refine consL rfl (by kernel_rfl) (fun K hK => ?_) AllReadyH.nil
        go_simp
        (with_reducible refine (cn _).mono ?_)
        rintro en w4 ⟨rfl, hb4⟩
        refine hK.out _ _ (rn_later hHeld hb4) (fun hHeld => ?_)
        clear hK K
        try simp only [Act.put, List.setIfInBounds_toArray, List.set_cons_zero, List.set_cons_succ]
        refine takeW (i := 2) (v := ?v26) rfl (by kernel_rfl) (by kernel_rfl) (by kernel_rfl) (fun _ _ _ h => h) (by kernel_rfl) hHeld ?hy26 ?rest26
        case hy26 => (intro w hSw; (try dsimp only at hSw); go_simp; (try with_reducible rfl))
        try simp only [Act.put, List.setIfInBounds_toArray, List.set_cons_zero, List.set_cons_succ]
        refine takeW (i := 3) (v := ?v27) rfl (by kernel_rfl) (by kernel_rfl) (by kernel_rfl) (fun _ _ _ h => h) (by kernel_rfl) hHeld ?hy27 ?rest27
        case hy27 => (intro w hSw; (try dsimp only at hSw); go_simp; (try with_reducible rfl))
        try simp only [Act.put, List.setIfInBounds_toArray, List.set_cons_zero, List.set_cons_succ]
        refine takeW (i := 4) (v := ?v28) rfl (by kernel_rfl) (by kernel_rfl) (by kernel_rfl) (fun _ _ _ h => h) (by kernel_rfl) hHeld ?hy28 ?rest28
        case hy28 => (intro w hSw; (try dsimp only at hSw); go_simp; (try with_reducible rfl))
        try simp only [Act.put, List.setIfInBounds_toArray, List.set_cons_zero, List.set_cons_succ]
        refine takeW (i := 5) (v := ?v29) rfl (by kernel_rfl) (by kernel_rfl) (by kernel_rfl) (fun _ _ _ h => h) (by kernel_rfl) hHeld ?hy29 ?rest29
        case hy29 => (intro w hSw; (try dsimp only at hSw); go_simp; (try with_reducible rfl))
        try simp only [Act.put, List.setIfInBounds_toArray, List.set_cons_zero, List.set_cons_succ]
        refine takeW (i := 6) (v := ?v30) rfl (by kernel_rfl) (by kernel_rfl) (by kernel_rfl) (fun _ _ _ h => h) (by kernel_rfl) hHeld ?hy30 ?rest30
        case hy30 => (intro w hSw; (try dsimp only at hSw); go_simp; (try with_reducible rfl))
        try simp only [Act.put, List.setIfInBounds_toArray, List.set_cons_zero, List.set_cons_succ]
        refine takeW (i := 7) (v := ?v31) rfl (by kernel_rfl) (by kernel_rfl) (by kernel_rfl) (fun _ _ _ h => h) (by kernel_rfl) hHeld ?hy31 ?rest31
        case hy31 => (intro w hSw; (try dsimp only at hSw); go_simp; (try with_reducible rfl))
        try simp only [Act.put, List.setIfInBounds_toArray, List.set_cons_zero, List.set_cons_succ]
        refine takeW (i := 8) (v := ?v32) rfl (by kernel_rfl) (by kernel_rfl) (by kernel_rfl) (fun _ _ _ h => h) (by kernel_rfl) hHeld ?hy32 ?rest32
        case hy32 => (intro w hSw; (try dsimp only at hSw); go_simp; (try with_reducible rfl))
        try simp only [Act.put, List.setIfInBounds_toArray, List.set_cons_zero, List.set_cons_succ]
        refine wpAnyH_ready (rs := [9]) (by kernel_rfl) (by simp) ?_
        refine consL rfl (by kernel_rfl) (fun K hK => ?_) AllReadyH.nil
        go_simp
        (with_reducible refine (ce _ hHeld.2.1.rp).mono ?_)
        rintro en w5 ⟨rfl, rfl⟩
        refine hK.out _ _ (hHeld) (fun hHeld => ?_)
        clear hK K
        try simp only [Act.put, List.setIfInBounds_toArray, List.set_cons_zero, List.set_cons_succ]
        refine takeW (i := 10) (v := ?v33) rfl (by kernel_rfl) (by kernel_rfl) (by kernel_rfl) (fun _ _ _ h => h) (by kernel_rfl) hHeld ?hy33 ?rest33
        case hy33 => (intro w hSw; (try dsimp only at hSw); go_simp; (try with_reducible rfl))
        try simp only [Act.put, List.setIfInBounds_toArray, List.set_cons_zero, List.set_cons_succ]
        refine takeW (i := 11) (v := ?v34) rfl (by kernel_rfl) (by kernel_rfl) (by kernel_rfl) (fun _ _ _ h => h) (by kernel_rfl) hHeld ?hy34 ?rest34
        case hy34 => (intro w hSw; (try dsimp only at hSw); go_simp; (try with_reducible rfl))
        try simp only [Act.put, List.setIfInBounds_toArray, List.set_cons_zero, List.set_cons_succ]
        refine wpAnyH_done (by kernel_rfl) ?_ _
        have HH := Lib.hid hHeld.2.1
        obtain ⟨⟨z0, z1, z2, z3, z4, z5⟩, _, hqlt⟩ := hHeld
        clear hS0 cn ce
        go_wp2_with fail
        with_reducible refine (cf _ HH.out.rp).mono ?_
        rintro en w6 ⟨rfl, rfl⟩
        clear cf
        obtain ⟨g, eA, _, k0, k1, k2, hgl, hKc⟩ := rk_cell HH.out.rp.row HXi.out
        subst eA
        have hsn := HH.out.rp.sn x (List.mem_of_getElem? HXi.out)
        obtain ⟨vA, vc, hv⟩ := hsn.slc
        rw [hv] at k2 hsn
        have pc := (HH.out.rp.box.cell 0).trans (show _ = some (Value.slice (some ⟨g, 0, none⟩) K.length c) from rfl)
        have HSN := Lib.hid hsn
        have hqlt2 := HH.out.bx.lt
        clear hsn hqlt
        by_cases he : x.1.2.1 = b.epoch
        · have he1 : (x.1.2.1 == b.epoch) = true := by rw [he]; exact beq_self_eq_true _
          have HE := Lib.hid he
          clear he
          have HN2 : Hid (noteG (K.map (·.1)) b = (K.map (·.1)).set i (b.prod, b.epoch, addL x.1.2.2 (b.seq, b.base, b.span))) := Lib.hid (by rw [HNT.out, if_pos HE.out])
          have HID : Hid (x.1.1 = b.prod ∧ x.1.2.1 = b.epoch) := Lib.hid ⟨HXP.out, HE.out⟩
          have HL5 := Lib.hid hL5
          obtain ⟨T0, hT0⟩ : ∃ T0, w4.alloc (.cells #[.int .i64 x.1.1, .int .i64 x.1.2.1, .slice vA x.1.2.2.length vc] 73) = T0 := ⟨_, rfl⟩
          have HU : Hid (RnU W base p w4.heap.size K (some ⟨g, 0, none⟩) c b B m d x.1.1 x.1.2.1 (.slice vA x.1.2.2.length vc) x.1.2.2 T0) := Lib.hid (by
            rw [← hT0]
            exact RnU.mk0 HH.out HSN.out hbW)
          have HT0 := Lib.hid hT0
          obtain ⟨A2, c2, w11, hr1, ho1, hb11, HU1⟩ := HU.out.first hL5
          obtain ⟨g3, c3, w13, hr2, ho2, hc3, hb13⟩ := sn_more ho1 hb11.size hL5 (b.seq, b.base, b.span)
          have HU2 := Lib.hid (HU.out.later (hb11.trans hb13))
          have HO2 := Lib.hid ho2
          have HR2 := Lib.hid hr2
          obtain ⟨y0, y1, y2, y3, y4, y5⟩ := bx5 HU1.out.rn.bx
          rw [← hT0] at hr1
          clear hT0 ho1 ho2 hr2 hb11 hb13
          have hqlt3 := HU1.out.rn.bx.lt
          obtain ⟨x0, x1_, x2⟩ := on3 HU2.out.one
          have xf := HU2.out.one.frozen 2
          have HU4 := Lib.hid (fun u' L' (hs : SnAt w13 u' L') => HU2.out.win hs hbW)
          rcases Nat.lt_or_ge x.1.2.2.length 5 with h5 | h5
          · have HS5 : Hid (SnAt w13 (.slice (some ⟨g3, 0, none⟩) (x.1.2.2.length + 1) c3) (addL x.1.2.2 (b.seq, b.base, b.span))) := Lib.hid (by
              unfold addL
              rw [if_neg (by omega)]
              exact sn_row HO2.out (by simp))
            have HU5 := Lib.hid (HU4.out _ _ HS5.out)
            go_wp2_with (at_builtin; first | refine wpList_append_run rfl (.tmp 92) (.tmp 94) 71 rfl _ _ _ rfl rfl hr1 ?_ | refine wpList_append_run rfl (.tmp 96) (.tmp 104) 71 rfl _ _ _ rfl rfl HR2.out ?_)
            clear hr1 x0 x1_ x2 xf pc k0 k1 k2 y0 y1 y2 y3 y4 y5 hqlt2 hqlt3
            try clear z0 z1 z2 z3 z4 z5
            have HU6 := HU5
            generalize (w13.setCell ⟨w4.heap.size, 2, none⟩ (.slice (some ⟨g3, 0, none⟩) (x.1.2.2.length + 1) c3)) = w14 at *
            generalize w4.heap.size = o at *
            have hU6 := HU6.out
            obtain ⟨q0, q1, q2⟩ := on3 hU6.one
            have q3 := (hU6.rn.rp.box.cell 0).trans (show _ = some (Value.slice (some ⟨g, 0, none⟩) K.length c) from rfl)
            have hS8 : (fun w => w.cell? ⟨p, 0, none⟩ = some (.slice (some ⟨g, 0, none⟩) K.length c) ∧ w.cell? ⟨o, 0, none⟩ = some (.int .i64 x.1.1) ∧ w.cell? ⟨o, 1, none⟩ = some (.int .i64 x.1.2.1) ∧ w.cell? ⟨o, 2, none⟩ = some (.slice (some ⟨g3, 0, none⟩) (x.1.2.2.length + 1) c3)) w14.drew := ⟨q3, q0, q1, q2⟩
            have HST := Lib.hid (RnU.store hU6 hil hbW)
            have hS9 : (fun w => w.cell? ⟨p, 0, none⟩ = some (.slice (some ⟨g, 0, none⟩) K.length c) ∧ w.cell? ⟨o, 0, none⟩ = some (.int .i64 x.1.1) ∧ w.cell? ⟨o, 1, none⟩ = some (.int .i64 x.1.2.1) ∧ w.cell? ⟨o, 2, none⟩ = some (.slice (some ⟨g3, 0, none⟩) (x.1.2.2.length + 1) c3)) (((w14.setCell ⟨g, i * 3, none⟩ (.int .i64 x.1.1)).setCell ⟨g, i * 3 + 1, none⟩ (.int .i64 x.1.2.1)).setCell ⟨g, i * 3 + 2, none⟩ (.slice (some ⟨g3, 0, none⟩) (x.1.2.2.length + 1) c3)).drew := by
              have hog : Off (· = g) w14 (((w14.setCell ⟨g, i * 3, none⟩ (.int .i64 x.1.1)).setCell ⟨g, i * 3 + 1, none⟩ (.int .i64 x.1.2.1)).setCell ⟨g, i * 3 + 2, none⟩ (.slice (some ⟨g3, 0, none⟩) (x.1.2.2.length + 1) c3)).drew := ((((Off.refl (· = g) w14).set (p := ⟨g, i * 3, none⟩) (.inl rfl) _).set (p := ⟨g, i * 3 + 1, none⟩) (.inl rfl) _).set (p := ⟨g, i * 3 + 2, none⟩) (.inl rfl) _).drew
              have hgo : g < o := hU6.go g rfl
              have hgp : ¬ p = g := fun e => by
                have h1 := HST.out.1.box
                obtain ⟨cur, hc, _⟩ := row_cur HST.out.1.row
                unfold Box at h1
                rw [e, hc] at h1
                injection h1 with h1
                injection h1 with _ h1 _
                exact absurd h1 (by decide)
              have c1 := hU6.rn.rp.box.off hog hgp
              have c2 := hU6.one.off hog (by omega)
              obtain ⟨a1, a2, a3⟩ := on3 c2
              exact ⟨(c1.cell 0).trans rfl, a1, a2, a3⟩
            obtain ⟨_, er, _, r0, r1, r2, _, _⟩ := rk_cell hU6.rn.rp.row HXi.out
            injection er with er
            injection er with er
            subst er
            have hfz := fun j => hU6.rn.rp.row.frozenAt j
            have f0 := hfz (i * 3)
            have f1 := hfz (i * 3 + 1)
            have f2 := hfz (i * 3 + 2)
            clear hU6 q0 q1 q2 q3 hfz
            refine wp_region_held_drew (S := (fun w => w.cell? ⟨p, 0, none⟩ = some (.slice (some ⟨g, 0, none⟩) K.length c) ∧ w.cell? ⟨o, 0, none⟩ = some (.int .i64 x.1.1) ∧ w.cell? ⟨o, 1, none⟩ = some (.int .i64 x.1.2.1) ∧ w.cell? ⟨o, 2, none⟩ = some (.slice (some ⟨g3, 0, none⟩) (x.1.2.2.length + 1) c3))) (by kernel_rfl) hS8 (fun hHeld2 => ?_)
            refine takeW (i := 0) (v := ?v63) rfl (by kernel_rfl) (by kernel_rfl) (by kernel_rfl) (fun _ _ _ h => h) (by kernel_rfl) hHeld2 ?hy63 ?rest63
            case hy63 => (intro w hSw; (try dsimp only at hSw); go_simp; (try with_reducible rfl))
            try simp only [Act.put, List.setIfInBounds_toArray, List.set_cons_zero, List.set_cons_succ]
            refine takeW (i := 1) (v := ?v64) rfl (by kernel_rfl) (by kernel_rfl) (by kernel_rfl) (fun _ _ _ h => h) (by kernel_rfl) hHeld2 ?hy64 ?rest64
            case hy64 => (intro w hSw; (try dsimp only at hSw); go_simp; (try with_reducible rfl))
            try simp only [Act.put, List.setIfInBounds_toArray, List.set_cons_zero, List.set_cons_succ]
            refine takeW (i := 2) (v := ?v65) rfl (by kernel_rfl) (by kernel_rfl) (by kernel_rfl) (fun _ _ _ h => h) (by kernel_rfl) hHeld2 ?hy65 ?rest65
            case hy65 => (intro w hSw; (try dsimp only at hSw); go_simp; (try with_reducible rfl))
            try simp only [Act.put, List.setIfInBounds_toArray, List.set_cons_zero, List.set_cons_succ]
            refine takeW (i := 3) (v := ?v66) rfl (by kernel_rfl) (by kernel_rfl) (by kernel_rfl) (fun _ _ _ h => h) (by kernel_rfl) hHeld2 ?hy66 ?rest66
            case hy66 => (intro w hSw; (try dsimp only at hSw); go_simp; (try with_reducible rfl))
            try simp only [Act.put, List.setIfInBounds_toArray, List.set_cons_zero, List.set_cons_succ]
            refine takeW (i := 4) (v := ?v67) rfl (by kernel_rfl) (by kernel_rfl) (by kernel_rfl) (fun _ _ _ h => h) (by kernel_rfl) hHeld2 ?hy67 ?rest67
            case hy67 => (intro w hSw; (try dsimp only at hSw); go_simp; (try with_reducible rfl))
            try simp only [Act.put, List.setIfInBounds_toArray, List.set_cons_zero, List.set_cons_succ]
            refine takeW (i := 5) (v := ?v68) rfl (by kernel_rfl) (by kernel_rfl) (by kernel_rfl) (fun _ _ _ h => h) (by kernel_rfl) hHeld2 ?hy68 ?rest68
            case hy68 => (intro w hSw; (try dsimp only at hSw); go_simp; (try with_reducible rfl))
            try simp only [Act.put, List.setIfInBounds_toArray, List.set_cons_zero, List.set_cons_succ]
            refine takeW (i := 6) (v := ?v69) rfl (by kernel_rfl) (by kernel_rfl) (by kernel_rfl) (fun _ _ _ h => h) (by kernel_rfl) hHeld2 ?hy69 ?rest69
            case hy69 => (intro w hSw; (try dsimp only at hSw); go_simp; (try with_reducible rfl))
            try simp only [Act.put, List.setIfInBounds_toArray, List.set_cons_zero, List.set_cons_succ]
            refine wpAnyH_ready (rs := [7]) (by kernel_rfl) (by simp) ?_
            refine consL rfl (by kernel_rfl) (fun K hK => ?_) AllReadyH.nil
            go_simp
            refine hK.out _ _ (hS9) (fun hHeld2 => ?_)
            clear hK K
            try simp only [Act.put, List.setIfInBounds_toArray, List.set_cons_zero, List.set_cons_succ]
            refine wpAnyH_done (by kernel_rfl) ?_ _
            go_end0
            refine ⟨rfl, _, _, _, HST.out.1.later (Below.refl _ _).drew, ?_, HST.out.2.1.trans (KeepO.of_below (Below.refl _ _).drew), HST.out.2.2.drew⟩
            rw [HN2.out, List.map_set]
            all_goals (show List.set _ _ (x.1.1, x.1.2.1, _) = _)
            all_goals (first | rfl | rw [HID.out.1, HID.out.2])
          · have HS5 : Hid (SnAt w13 (.slice (some ⟨g3, 3, none⟩) x.1.2.2.length (c3 - 1)) (addL x.1.2.2 (b.seq, b.base, b.span))) := Lib.hid (by
              have hne : x.1.2.2 ≠ [] := fun e => by rw [e] at h5; simp at h5
              unfold addL
              rw [if_pos (by omega), ← List.tail_append_of_ne_nil hne]
              exact sn_tail HO2.out (by simp))
            have HU5 := Lib.hid (HU4.out _ _ HS5.out)
            go_wp2_with (at_builtin; first | refine wpList_append_run rfl (.tmp 92) (.tmp 94) 71 rfl _ _ _ rfl rfl hr1 ?_ | refine wpList_append_run rfl (.tmp 96) (.tmp 104) 71 rfl _ _ _ rfl rfl HR2.out ?_)
            clear hr1 x0 x1_ x2 xf pc k0 k1 k2 y0 y1 y2 y3 y4 y5 hqlt2 hqlt3
            try clear z0 z1 z2 z3 z4 z5
            have HU6 := HU5
            generalize (w13.setCell ⟨w4.heap.size, 2, none⟩ (.slice (some ⟨g3, 3, none⟩) x.1.2.2.length (c3 - 1))) = w14 at *
            generalize w4.heap.size = o at *
            have hU6 := HU6.out
            obtain ⟨q0, q1, q2⟩ := on3 hU6.one
            have q3 := (hU6.rn.rp.box.cell 0).trans (show _ = some (Value.slice (some ⟨g, 0, none⟩) K.length c) from rfl)
            have hS8 : (fun w => w.cell? ⟨p, 0, none⟩ = some (.slice (some ⟨g, 0, none⟩) K.length c) ∧ w.cell? ⟨o, 0, none⟩ = some (.int .i64 x.1.1) ∧ w.cell? ⟨o, 1, none⟩ = some (.int .i64 x.1.2.1) ∧ w.cell? ⟨o, 2, none⟩ = some (.slice (some ⟨g3, 3, none⟩) x.1.2.2.length (c3 - 1))) w14.drew := ⟨q3, q0, q1, q2⟩
            have HST := Lib.hid (RnU.store hU6 hil hbW)
            have hS9 : (fun w => w.cell? ⟨p, 0, none⟩ = some (.slice (some ⟨g, 0, none⟩) K.length c) ∧ w.cell? ⟨o, 0, none⟩ = some (.int .i64 x.1.1) ∧ w.cell? ⟨o, 1, none⟩ = some (.int .i64 x.1.2.1) ∧ w.cell? ⟨o, 2, none⟩ = some (.slice (some ⟨g3, 3, none⟩) x.1.2.2.length (c3 - 1))) (((w14.setCell ⟨g, i * 3, none⟩ (.int .i64 x.1.1)).setCell ⟨g, i * 3 + 1, none⟩ (.int .i64 x.1.2.1)).setCell ⟨g, i * 3 + 2, none⟩ (.slice (some ⟨g3, 3, none⟩) x.1.2.2.length (c3 - 1))).drew := by
              have hog : Off (· = g) w14 (((w14.setCell ⟨g, i * 3, none⟩ (.int .i64 x.1.1)).setCell ⟨g, i * 3 + 1, none⟩ (.int .i64 x.1.2.1)).setCell ⟨g, i * 3 + 2, none⟩ (.slice (some ⟨g3, 3, none⟩) x.1.2.2.length (c3 - 1))).drew := ((((Off.refl (· = g) w14).set (p := ⟨g, i * 3, none⟩) (.inl rfl) _).set (p := ⟨g, i * 3 + 1, none⟩) (.inl rfl) _).set (p := ⟨g, i * 3 + 2, none⟩) (.inl rfl) _).drew
              have hgo : g < o := hU6.go g rfl
              have hgp : ¬ p = g := fun e => by
                have h1 := HST.out.1.box
                obtain ⟨cur, hc, _⟩ := row_cur HST.out.1.row
                unfold Box at h1
                rw [e, hc] at h1
                injection h1 with h1
                injection h1 with _ h1 _
                exact absurd h1 (by decide)
              have c1 := hU6.rn.rp.box.off hog hgp
              have c2 := hU6.one.off hog (by omega)
              obtain ⟨a1, a2, a3⟩ := on3 c2
              exact ⟨(c1.cell 0).trans rfl, a1, a2, a3⟩
            obtain ⟨_, er, _, r0, r1, r2, _, _⟩ := rk_cell hU6.rn.rp.row HXi.out
            injection er with er
            injection er with er
            subst er
            have hfz := fun j => hU6.rn.rp.row.frozenAt j
            have f0 := hfz (i * 3)
            have f1 := hfz (i * 3 + 1)
            have f2 := hfz (i * 3 + 2)
            clear hU6 q0 q1 q2 q3 hfz
            refine wp_region_held_drew (S := (fun w => w.cell? ⟨p, 0, none⟩ = some (.slice (some ⟨g, 0, none⟩) K.length c) ∧ w.cell? ⟨o, 0, none⟩ = some (.int .i64 x.1.1) ∧ w.cell? ⟨o, 1, none⟩ = some (.int .i64 x.1.2.1) ∧ w.cell? ⟨o, 2, none⟩ = some (.slice (some ⟨g3, 3, none⟩) x.1.2.2.length (c3 - 1)))) (by kernel_rfl) hS8 (fun hHeld2 => ?_)
            refine takeW (i := 0) (v := ?v70) rfl (by kernel_rfl) (by kernel_rfl) (by kernel_rfl) (fun _ _ _ h => h) (by kernel_rfl) hHeld2 ?hy70 ?rest70
            case hy70 => (intro w hSw; (try dsimp only at hSw); go_simp; (try with_reducible rfl))
            try simp only [Act.put, List.setIfInBounds_toArray, List.set_cons_zero, List.set_cons_succ]
            refine takeW (i := 1) (v := ?v71) rfl (by kernel_rfl) (by kernel_rfl) (by kernel_rfl) (fun _ _ _ h => h) (by kernel_rfl) hHeld2 ?hy71 ?rest71
            case hy71 => (intro w hSw; (try dsimp only at hSw); go_simp; (try with_reducible rfl))
            try simp only [Act.put, List.setIfInBounds_toArray, List.set_cons_zero, List.set_cons_succ]
            refine takeW (i := 2) (v := ?v72) rfl (by kernel_rfl) (by kernel_rfl) (by kernel_rfl) (fun _ _ _ h => h) (by kernel_rfl) hHeld2 ?hy72 ?rest72
            case hy72 => (intro w hSw; (try dsimp only at hSw); go_simp; (try with_reducible rfl))
            try simp only [Act.put, List.setIfInBounds_toArray, List.set_cons_zero, List.set_cons_succ]
            refine takeW (i := 3) (v := ?v73) rfl (by kernel_rfl) (by kernel_rfl) (by kernel_rfl) (fun _ _ _ h => h) (by kernel_rfl) hHeld2 ?hy73 ?rest73
            case hy73 => (intro w hSw; (try dsimp only at hSw); go_simp; (try with_reducible rfl))
            try simp only [Act.put, List.setIfInBounds_toArray, List.set_cons_zero, List.set_cons_succ]
            refine takeW (i := 4) (v := ?v74) rfl (by kernel_rfl) (by kernel_rfl) (by kernel_rfl) (fun _ _ _ h => h) (by kernel_rfl) hHeld2 ?hy74 ?rest74
            case hy74 => (intro w hSw; (try dsimp only at hSw); go_simp; (try with_reducible rfl))
            try simp only [Act.put, List.setIfInBounds_toArray, List.set_cons_zero, List.set_cons_succ]
            refine takeW (i := 5) (v := ?v75) rfl (by kernel_rfl) (by kernel_rfl) (by kernel_rfl) (fun _ _ _ h => h) (by kernel_rfl) hHeld2 ?hy75 ?rest75
            case hy75 => (intro w hSw; (try dsimp only at hSw); go_simp; (try with_reducible rfl))
            try simp only [Act.put, List.setIfInBounds_toArray, List.set_cons_zero, List.set_cons_succ]
            refine takeW (i := 6) (v := ?v76) rfl (by kernel_rfl) (by kernel_rfl) (by kernel_rfl) (fun _ _ _ h => h) (by kernel_rfl) hHeld2 ?hy76 ?rest76
            case hy76 => (intro w hSw; (try dsimp only at hSw); go_simp; (try with_reducible rfl))
            try simp only [Act.put, List.setIfInBounds_toArray, List.set_cons_zero, List.set_cons_succ]
            refine wpAnyH_ready (rs := [7]) (by kernel_rfl) (by simp) ?_
            refine consL rfl (by kernel_rfl) (fun K hK => ?_) AllReadyH.nil
            go_simp
            refine hK.out _ _ (hS9) (fun hHeld2 => ?_)
            clear hK K
            try simp only [Act.put, List.setIfInBounds_toArray, List.set_cons_zero, List.set_cons_succ]
            refine wpAnyH_done (by kernel_rfl) ?_ _
            go_end0
            refine ⟨rfl, _, _, _, HST.out.1.later (Below.refl _ _).drew, ?_, HST.out.2.1.trans (KeepO.of_below (Below.refl _ _).drew), HST.out.2.2.drew⟩
            rw [HN2.out, List.map_set]
            all_goals (show List.set _ _ (x.1.1, x.1.2.1, _) = _)
            all_goals (first | rfl | rw [HID.out.1, HID.out.2])
        · have he1 : (x.1.2.1 == b.epoch) = false := by simp [he]
          have HE := Lib.hid he
          clear he hL5
          obtain ⟨L0, hL0⟩ : ∃ L0 : List SN, L0 = [] := ⟨_, rfl⟩
          have HN2 : Hid (noteG (K.map (·.1)) b = (K.map (·.1)).set i (b.prod, b.epoch, addL L0 (b.seq, b.base, b.span))) := Lib.hid (by rw [HNT.out, if_neg HE.out, hL0])
          have HID : Hid (b.prod = b.prod ∧ b.epoch = b.epoch) := Lib.hid ⟨rfl, rfl⟩
          clear HSN
          have HSN : Hid (SnAt w4 (.slice none 0 0) L0) := Lib.hid (.inl ⟨rfl, hL0⟩)
          have hL5 : L0.length ≤ 5 := by rw [hL0]; exact Nat.zero_le _
          have HL5 := Lib.hid (show L0.length < 5 by rw [hL0]; decide)
          clear hL0
          obtain ⟨T0, hT0⟩ : ∃ T0, w4.alloc (.cells #[.int .i64 b.prod, .int .i64 b.epoch, .slice none 0 0] 73) = T0 := ⟨_, rfl⟩
          have HU : Hid (RnU W base p w4.heap.size K (some ⟨g, 0, none⟩) c b B m d b.prod b.epoch (.slice none 0 0) L0 T0) := Lib.hid (by
            rw [← hT0]
            exact RnU.mk0 HH.out HSN.out hbW)
          have HT0 := Lib.hid hT0
          obtain ⟨A2, c2, w11, hr1, ho1, hb11, HU1⟩ := HU.out.first hL5
          obtain ⟨g3, c3, w13, hr2, ho2, hc3, hb13⟩ := sn_more ho1 hb11.size hL5 (b.seq, b.base, b.span)
          have HU2 := Lib.hid (HU.out.later (hb11.trans hb13))
          have HO2 := Lib.hid ho2
          have HR2 := Lib.hid hr2
          obtain ⟨y0, y1, y2, y3, y4, y5⟩ := bx5 HU1.out.rn.bx
          rw [← hT0] at hr1
          clear hT0 ho1 ho2 hr2 hb11 hb13
          have hqlt3 := HU1.out.rn.bx.lt
          obtain ⟨x0, x1_, x2⟩ := on3 HU2.out.one
          have xf := HU2.out.one.frozen 2
          have HU4 := Lib.hid (fun u' L' (hs : SnAt w13 u' L') => HU2.out.win hs hbW)
          have h5 := HL5.out
          have HS5 : Hid (SnAt w13 (.slice (some ⟨g3, 0, none⟩) (L0.length + 1) c3) (addL L0 (b.seq, b.base, b.span))) := Lib.hid (by
            unfold addL
            rw [if_neg (by omega)]
            exact sn_row HO2.out (by simp))
          have HU5 := Lib.hid (HU4.out _ _ HS5.out)
          go_wp2_with (at_builtin; first | refine wpList_append_run rfl (.tmp 92) (.tmp 94) 71 rfl _ _ _ rfl rfl hr1 ?_ | refine wpList_append_run rfl (.tmp 96) (.tmp 104) 71 rfl _ _ _ rfl rfl HR2.out ?_)
          clear hr1 x0 x1_ x2 xf pc k0 k1 k2 y0 y1 y2 y3 y4 y5 hqlt2 hqlt3
          try clear z0 z1 z2 z3 z4 z5
          have HU6 := HU5
          generalize (w13.setCell ⟨w4.heap.size, 2, none⟩ (.slice (some ⟨g3, 0, none⟩) (L0.length + 1) c3)) = w14 at *
          generalize w4.heap.size = o at *
          have hU6 := HU6.out
          obtain ⟨q0, q1, q2⟩ := on3 hU6.one
          have q3 := (hU6.rn.rp.box.cell 0).trans (show _ = some (Value.slice (some ⟨g, 0, none⟩) K.length c) from rfl)
          have hS8 : (fun w => w.cell? ⟨p, 0, none⟩ = some (.slice (some ⟨g, 0, none⟩) K.length c) ∧ w.cell? ⟨o, 0, none⟩ = some (.int .i64 b.prod) ∧ w.cell? ⟨o, 1, none⟩ = some (.int .i64 b.epoch) ∧ w.cell? ⟨o, 2, none⟩ = some (.slice (some ⟨g3, 0, none⟩) (L0.length + 1) c3)) w14.drew := ⟨q3, q0, q1, q2⟩
          have HST := Lib.hid (RnU.store hU6 hil hbW)
          have hS9 : (fun w => w.cell? ⟨p, 0, none⟩ = some (.slice (some ⟨g, 0, none⟩) K.length c) ∧ w.cell? ⟨o, 0, none⟩ = some (.int .i64 b.prod) ∧ w.cell? ⟨o, 1, none⟩ = some (.int .i64 b.epoch) ∧ w.cell? ⟨o, 2, none⟩ = some (.slice (some ⟨g3, 0, none⟩) (L0.length + 1) c3)) (((w14.setCell ⟨g, i * 3, none⟩ (.int .i64 b.prod)).setCell ⟨g, i * 3 + 1, none⟩ (.int .i64 b.epoch)).setCell ⟨g, i * 3 + 2, none⟩ (.slice (some ⟨g3, 0, none⟩) (L0.length + 1) c3)).drew := by
            have hog : Off (· = g) w14 (((w14.setCell ⟨g, i * 3, none⟩ (.int .i64 b.prod)).setCell ⟨g, i * 3 + 1, none⟩ (.int .i64 b.epoch)).setCell ⟨g, i * 3 + 2, none⟩ (.slice (some ⟨g3, 0, none⟩) (L0.length + 1) c3)).drew := ((((Off.refl (· = g) w14).set (p := ⟨g, i * 3, none⟩) (.inl rfl) _).set (p := ⟨g, i * 3 + 1, none⟩) (.inl rfl) _).set (p := ⟨g, i * 3 + 2, none⟩) (.inl rfl) _).drew
            have hgo : g < o := hU6.go g rfl
            have hgp : ¬ p = g := fun e => by
              have h1 := HST.out.1.box
              obtain ⟨cur, hc, _⟩ := row_cur HST.out.1.row
              unfold Box at h1
              rw [e, hc] at h1
              injection h1 with h1
              injection h1 with _ h1 _
              exact absurd h1 (by decide)
            have c1 := hU6.rn.rp.box.off hog hgp
            have c2 := hU6.one.off hog (by omega)
            obtain ⟨a1, a2, a3⟩ := on3 c2
            exact ⟨(c1.cell 0).trans rfl, a1, a2, a3⟩
          obtain ⟨_, er, _, r0, r1, r2, _, _⟩ := rk_cell hU6.rn.rp.row HXi.out
          injection er with er
          injection er with er
          subst er
          have hfz := fun j => hU6.rn.rp.row.frozenAt j
          have f0 := hfz (i * 3)
          have f1 := hfz (i * 3 + 1)
          have f2 := hfz (i * 3 + 2)
          clear hU6 q0 q1 q2 q3 hfz
          refine wp_region_held_drew (S := (fun w => w.cell? ⟨p, 0, none⟩ = some (.slice (some ⟨g, 0, none⟩) K.length c) ∧ w.cell? ⟨o, 0, none⟩ = some (.int .i64 b.prod) ∧ w.cell? ⟨o, 1, none⟩ = some (.int .i64 b.epoch) ∧ w.cell? ⟨o, 2, none⟩ = some (.slice (some ⟨g3, 0, none⟩) (L0.length + 1) c3))) (by kernel_rfl) hS8 (fun hHeld2 => ?_)
          refine takeW (i := 0) (v := ?v77) rfl (by kernel_rfl) (by kernel_rfl) (by kernel_rfl) (fun _ _ _ h => h) (by kernel_rfl) hHeld2 ?hy77 ?rest77
          case hy77 => (intro w hSw; (try dsimp only at hSw); go_simp; (try with_reducible rfl))
          try simp only [Act.put, List.setIfInBounds_toArray, List.set_cons_zero, List.set_cons_succ]
          refine takeW (i := 1) (v := ?v78) rfl (by kernel_rfl) (by kernel_rfl) (by kernel_rfl) (fun _ _ _ h => h) (by kernel_rfl) hHeld2 ?hy78 ?rest78
          case hy78 => (intro w hSw; (try dsimp only at hSw); go_simp; (try with_reducible rfl))
          try simp only [Act.put, List.setIfInBounds_toArray, List.set_cons_zero, List.set_cons_succ]
          refine takeW (i := 2) (v := ?v79) rfl (by kernel_rfl) (by kernel_rfl) (by kernel_rfl) (fun _ _ _ h => h) (by kernel_rfl) hHeld2 ?hy79 ?rest79
          case hy79 => (intro w hSw; (try dsimp only at hSw); go_simp; (try with_reducible rfl))
          try simp only [Act.put, List.setIfInBounds_toArray, List.set_cons_zero, List.set_cons_succ]
          refine takeW (i := 3) (v := ?v80) rfl (by kernel_rfl) (by kernel_rfl) (by kernel_rfl) (fun _ _ _ h => h) (by kernel_rfl) hHeld2 ?hy80 ?rest80
          case hy80 => (intro w hSw; (try dsimp only at hSw); go_simp; (try with_reducible rfl))
          try simp only [Act.put, List.setIfInBounds_toArray, List.set_cons_zero, List.set_cons_succ]
          refine takeW (i := 4) (v := ?v81) rfl (by kernel_rfl) (by kernel_rfl) (by kernel_rfl) (fun _ _ _ h => h) (by kernel_rfl) hHeld2 ?hy81 ?rest81
          case hy81 => (intro w hSw; (try dsimp only at hSw); go_simp; (try with_reducible rfl))
          try simp only [Act.put, List.setIfInBounds_toArray, List.set_cons_zero, List.set_cons_succ]
          refine takeW (i := 5) (v := ?v82) rfl (by kernel_rfl) (by kernel_rfl) (by kernel_rfl) (fun _ _ _ h => h) (by kernel_rfl) hHeld2 ?hy82 ?rest82
          case hy82 => (intro w hSw; (try dsimp only at hSw); go_simp; (try with_reducible rfl))
          try simp only [Act.put, List.setIfInBounds_toArray, List.set_cons_zero, List.set_cons_succ]
          refine takeW (i := 6) (v := ?v83) rfl (by kernel_rfl) (by kernel_rfl) (by kernel_rfl) (fun _ _ _ h => h) (by kernel_rfl) hHeld2 ?hy83 ?rest83
          case hy83 => (intro w hSw; (try dsimp only at hSw); go_simp; (try with_reducible rfl))
          try simp only [Act.put, List.setIfInBounds_toArray, List.set_cons_zero, List.set_cons_succ]
          refine wpAnyH_ready (rs := [7]) (by kernel_rfl) (by simp) ?_
          refine consL rfl (by kernel_rfl) (fun K hK => ?_) AllReadyH.nil
          go_simp
          refine hK.out _ _ (hS9) (fun hHeld2 => ?_)
          clear hK K
          try simp only [Act.put, List.setIfInBounds_toArray, List.set_cons_zero, List.set_cons_succ]
          refine wpAnyH_done (by kernel_rfl) ?_ _
          go_end0
          refine ⟨rfl, _, _, _, HST.out.1.later (Below.refl _ _).drew, ?_, HST.out.2.1.trans (KeepO.of_below (Below.refl _ _).drew), HST.out.2.2.drew⟩
          rw [HN2.out, List.map_set]
          all_goals (show List.set _ _ (b.prod, b.epoch, _) = _)
          all_goals (first | rfl | rw [HID.out.1, HID.out.2])
end Go.Proofs.Ytdhakekndinbeaa
