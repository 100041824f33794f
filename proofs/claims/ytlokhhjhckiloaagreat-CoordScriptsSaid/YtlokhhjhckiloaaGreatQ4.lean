/- coord: merged texts. What each proves is told at its head. -/
import Derived.Test.YtlokhhjhckiloaaGreatQ2
import Derived.Test.YtlokhhjhckiloaaGreatQB
import Derived.Test.YtlokhhjhckiloaaGreatQ3
/- coord: the document's coordinator: its groups and its table, and what its calls may write. No condition. -/
namespace Go.Proofs.YtlokhhjhckiloaaGreat
open Go.RowKit Go.Maps Go.ChangeMaps Go.WideMaps
set_option linter.unusedVariables false
/-- Blocks that the document's calls may write. -/
def kindK (t : TypeId) : Prop := t = 81 ∨ t = 113 ∨ t = 76 ∨ t = 73 ∨ t = 117
def badK (o : Obj) : Prop := ∃ cs t fr, o = .cells cs t fr ∧ kindK t
def KeepK (w w' : World) : Prop := ∀ (k : Nat) (o : Obj), w.heap[k]? = some o → ¬ badK o → w'.heap[k]? = some o
theorem KeepK.of_below {w w' : World} (hb : Below w.heap.size w w') : KeepK w w' := fun k o hk _ => (hb.block k (Array.getElem?_eq_some_iff.1 hk).1).trans hk
theorem KeepK.trans {w w' w'' : World} (h : KeepK w w') (k : KeepK w' w'') : KeepK w w'' := fun i o hi hb => k i o (h i o hi hb) hb
theorem badK_cells {cs : Array Value} {t : TypeId} {fr : Nat × Nat} (h : ¬ kindK t) : ¬ badK (.cells cs t fr) := by
  rintro ⟨cs', t', fr', e, ht⟩
  injection e with _ e2 _
  rw [← e2] at ht
  exact h ht
theorem KeepK.box {w w' : World} {b : Nat} {t : TypeId} {cs : Array Value} (h : KeepK w w') (hb : Box w b t cs) (ht : ¬ kindK t) : Box w' b t cs := h b _ hb (badK_cells ht)
theorem KeepK.row {w w' : World} {base t size n : Nat} {v : Value} {xs : List Value} (h : KeepK w w') (hr : w.ownsRow base t size v n xs) (ht : ¬ kindK t) : w'.ownsRow base t size v n xs := by
  refine ⟨hr.1, ?_⟩
  rcases hr.2 with h0 | ⟨g, cap, cur, hv, hb, hg, hx⟩
  · exact .inl h0
  · exact .inr ⟨g, cap, cur, hv, hb, h g _ hg (badK_cells ht), hx⟩
theorem KeepK.of_table {w w' : World} (h : Of.KeepO Of.badD w w') : KeepK w w' := fun k o hk hn => h k o hk (fun ⟨cs, fr, e⟩ => hn (by
  rcases e with e | e
  · exact ⟨cs, _, fr, e, .inr (.inr (.inr (.inl rfl)))⟩
  · exact ⟨cs, _, fr, e, .inr (.inr (.inr (.inr rfl)))⟩))
theorem keepK_grp {w w' : World} {B p : Nat} {v : Value} {R : List MV} {G : GD} (h : KIs w B p v R G) (ho : Off (GrS p v) w w') : KeepK w w' := fun k o hk hn => (ho.block k (Array.getElem?_eq_some_iff.1 hk).1 (fun hs => hn (by
  rcases hs with e | e
  · subst e
    have hb := h.box
    unfold Box at hb
    rw [hb] at hk
    injection hk with hk
    rw [← hk]
    exact ⟨_, _, _, rfl, .inl rfl⟩
  · rcases h.row.2 with ⟨e0, _⟩ | ⟨q, cap, cur, e0, _, hq, _⟩
    · rw [e0] at e; cases e
    · rw [e0] at e
      have : q = k := by simpa [Value.ownBlock] using e
      subst this
      rw [hq] at hk
      injection hk with hk
      rw [← hk]
      exact ⟨_, _, _, rfl, .inr (.inl rfl)⟩))).trans hk
theorem KeepK.far {w w1 w2 : World} {b : Nat} (h : KeepK w w1) (ho : Off (fun i => i = b) w1 w2) (hb : w.heap.size ≤ b) : KeepK w w2 := fun k o hk hn => by
  have h1 := h k o hk hn
  have hl := (Array.getElem?_eq_some_iff.1 hk).1
  exact (ho.block k (Array.getElem?_eq_some_iff.1 h1).1 (fun e => by have e : k = b := e; omega)).trans h1
section
variable {W w w' : World} {p g o og : Nat} {k ss rb : Int} {F H : List CE} {V : Nat → Value} {D : Nat → GD} {O : List Of.KE}
/-- The program's coordinator stays under the document's calls. -/
theorem CO.keepK (h : CO W w p g o og k ss rb F H V D O) (hk : KeepK w w') (hbel : Below W.heap.size W w') : CO W w' p g o og k ss rb F H V D O := by
  refine ⟨⟨hk.box h.is.box (by unfold kindK; decide), ?_, h.is.rise⟩, h.hp, h.hg, h.sub, fun e he => ?_, h.nd, h.ap, ⟨⟨hk.box h.ot.is.box (by unfold kindK; decide), ?_, h.ot.is.rise⟩, h.ot.hp, h.ot.hg, h.ot.ok⟩, h.sep, hbel, h.few, h.nm, h.ss, h.rb⟩
  · obtain ⟨es, clock, hb, Ft, hs, hD⟩ := h.is.map
    exact ⟨es, clock, hk g _ hb (fun ⟨cs', t', fr, e, _⟩ => by cases e), Ft, hs, hD⟩
  · obtain ⟨R, hR⟩ := (h.grp e he).is
    exact ⟨⟨R, hk.box hR.box (by unfold kindK; decide), hR.base, hk.row hR.row (by unfold kindK; decide), fun x hx => ⟨hk.row (hR.all x hx).tr (by unfold kindK; decide), hk.row (hR.all x hx).pr (by unfold kindK; decide)⟩, hR.abs⟩, (h.grp e he).q, (h.grp e he).n, hbel⟩
  · obtain ⟨es, clock, hb, Ft, hs, hD⟩ := h.ot.is.map
    exact ⟨es, clock, hk og _ hb (fun ⟨cs', t', fr, e, _⟩ => by cases e), Ft, hs, hD⟩
end
/-- One of the document's groups. -/
structure KG (W w : World) (b : Nat) (v : Value) (k : Int) (G : GD) : Prop where
  is : ∃ R, KIs w W.heap.size b v R G
  q : GQ k G
  n : GN G
theorem KIs.keepP {w w' : World} {B p : Nat} {v : Value} {R : List MV} {G : GD} (h : KIs w B p v R G) (hk : KeepP w w') : KIs w' B p v R G :=
  ⟨hk.box h.box (by decide) (by decide), h.base, hk.row h.row (by decide) (by decide), fun x hx => ⟨hk.row (h.all x hx).tr (by decide) (by decide), hk.row (h.all x hx).pr (by decide) (by decide)⟩, h.abs⟩
theorem KIs.lt {w : World} {B p : Nat} {v : Value} {R : List MV} {G : GD} (h : KIs w B p v R G) : ∀ j, GrS p v j → B ≤ j ∧ j < w.heap.size := fun j hj => by
  rcases hj with rfl | e
  · exact ⟨h.base, h.box.lt⟩
  · exact h.row.lt _ e
/-- The document's coordinator: all groups, each by its block; its table. -/
structure KO (W w : World) (q c t : Nat) (A : Option Addr) (k ss rb : Int) (F : List CE) (V : Nat → Value) (D : Nat → GD) (O : List Of.KE) : Prop where
  is : KoIs w W.heap.size q A c t ss rb F
  rise : F.Pairwise fun a b => bytesBefore a.name b.name = true
  grp : ∀ e ∈ F, KG W w e.blk (V e.blk) k (D e.blk)
  nd : ∀ e ∈ F, ∀ e' ∈ F, e.blk = e'.blk → e.name = e'.name
  ap : ∀ e ∈ F, ∀ e' ∈ F, e.blk ≠ e'.blk → ∀ j, (V e.blk).ownBlock = some j → (V e'.blk).ownBlock ≠ some j
  rd : ∃ L A2 c2, Of.RdIs w W.heap.size t 1000 L A2 c2 ∧ Of.DL L O
  ok : Of.FOk 1000 O
  ht : W.heap.size ≤ t
  bel : Below W.heap.size W w
  few : F.length ≤ 20
  nm : ∀ e ∈ F, e.name.length ≤ 100
  ss : 1 ≤ ss ∧ ss ≤ 100000
  rb : 1 ≤ rb ∧ rb ≤ 100000
section
variable {W w w' : World} {q c t : Nat} {A : Option Addr} {k ss rb : Int} {F : List CE} {V : Nat → Value} {D : Nat → GD} {O : List Of.KE}
theorem KO.keepP (h : KO W w q c t A k ss rb F V D O) (hk : KeepP w w') (hbel : Below W.heap.size W w') : KO W w' q c t A k ss rb F V D O := by
  obtain ⟨L, A2, c2, h1, h2⟩ := h.rd
  refine ⟨h.is.keep hk, h.rise, fun e he => ?_, h.nd, h.ap, ⟨L, A2, c2, ⟨hk.box h1.box (by decide) (by decide), hk.row h1.row (by decide) (by decide)⟩, h2⟩, h.ok, h.ht, hbel, h.few, h.nm, h.ss, h.rb⟩
  obtain ⟨R, hR⟩ := (h.grp e he).is
  exact ⟨⟨R, hR.keepP hk⟩, (h.grp e he).q, (h.grp e he).n⟩
theorem KO.later (h : KO W w q c t A k ss rb F V D O) (hb : Below w.heap.size w w') : KO W w' q c t A k ss rb F V D O := h.keepP (KeepP.of_below hb) (h.bel.trans (hb.mono h.bel.size))
theorem KO.bump {j : Int} (h : KO W w q c t A k ss rb F V D O) (hj : k ≤ j) : KO W w q c t A j ss rb F V D O :=
  ⟨h.is, h.rise, fun e he => ⟨(h.grp e he).is, (h.grp e he).q.mono hj, (h.grp e he).n⟩, h.nd, h.ap, h.rd, h.ok, h.ht, h.bel, h.few, h.nm, h.ss, h.rb⟩
/-- Another group is as it was. -/
theorem KIs.other {B B' p p' : Nat} {v v' : Value} {R R' : List MV} {G G' : GD} (h : KIs w B p v R G) (h' : KIs w B' p' v' R' G') (hne : p' ≠ p) (hap : ∀ j, v'.ownBlock = some j → v.ownBlock ≠ some j) (ho : Off (GrS p v) w w') : KIs w' B' p' v' R' G' := by
  have q0 : ∀ {t size n : Nat} {x : Value} {xs : List Value}, w.ownsRow B' t size x n xs → 81 ≠ t → t ≠ 113 → w'.ownsRow B' t size x n xs := fun hr hn hn2 => own_off hr ho (fun k hk hS => by
    rcases hS with rfl | e
    · exact own_ne hr h.box hn k hk rfl
    · exact own_two hr h.row hn2 k hk e)
  refine ⟨h'.box.off ho (fun hS => ?_), h'.base, own_off h'.row ho (fun k hk hS => ?_), fun x hx => ⟨q0 (h'.all x hx).tr (by decide) (by decide), q0 (h'.all x hx).pr (by decide) (by decide)⟩, h'.abs⟩
  · rcases hS with e | e
    · exact hne e
    · exact own_ne h.row h'.box (by decide) p' e rfl
  · rcases hS with e | e
    · exact own_ne h'.row h.box (by decide) k hk e
    · exact hap k hk e
/-- A call on one group. -/
theorem KO.call {e : CE} {v' : Value} {R' : List MV} {G' : GD} {j : Int} (h : KO W w q c t A k ss rb F V D O) (he : e ∈ F) (h' : KIs w' W.heap.size e.blk v' R' G') (hq : GQ j G') (hn : GN G') (ho : Off (GrS e.blk (V e.blk)) w w') (hv : ∀ i, v'.ownBlock = some i → (V e.blk).ownBlock = some i ∨ w.heap.size ≤ i) (hj : k ≤ j) :
    KO W w' q c t A j ss rb F (updF V e.blk v') (updF D e.blk G') O ∧ KeepK w w' := by
  obtain ⟨R, hR⟩ := (h.grp e he).is
  have hkk := keepK_grp hR ho
  have hbel : Below W.heap.size W w' := h.bel.trans (ho.below h.bel.size (fun i hi => (hR.lt i hi).1))
  obtain ⟨L, A2, c2, h1, h2⟩ := h.rd
  refine ⟨⟨⟨h.is.box.off ho (fun hs => ?_), hkk.row h.is.row (by unfold kindK; decide), h.is.base⟩, h.rise, fun e2 he2 => ?_, h.nd, fun e2 he2 e3 he3 hne i hi => ?_, ⟨L, A2, c2, ⟨h1.box.off ho (fun hs => ?_), own_off h1.row ho (fun i hi hs => ?_)⟩, h2⟩, h.ok, h.ht, hbel, h.few, h.nm, h.ss, h.rb⟩, hkk⟩
  · rcases hs with x | x
    · exact two_boxes h.is.box hR.box (by decide) x
    · exact own_ne hR.row h.is.box (by decide) _ x rfl
  · by_cases hb : e2.blk = e.blk
    · rw [hb, updF_same, updF_same]; exact ⟨⟨R', h'⟩, hq, hn⟩
    · rw [updF_ne _ _ hb, updF_ne _ _ hb]
      obtain ⟨R2, hR2⟩ := (h.grp e2 he2).is
      exact ⟨⟨R2, hR.other hR2 hb (h.ap e2 he2 e he hb) ho⟩, (h.grp e2 he2).q.mono hj, (h.grp e2 he2).n⟩
  · have hlt : ∀ e3 ∈ F, ∀ i, (V e3.blk).ownBlock = some i → i < w.heap.size := fun e3 he3 i hi => by
      obtain ⟨R3, hR3⟩ := (h.grp e3 he3).is
      exact (hR3.lt i (.inr hi)).2
    by_cases hb : e2.blk = e.blk
    · have hb3 : e3.blk ≠ e.blk := fun x => hne (hb.trans x.symm)
      rw [hb, updF_same] at hi
      rw [updF_ne _ _ hb3]
      rcases hv i hi with x | x
      · exact h.ap e he e3 he3 (fun x => hb3 x.symm) i x
      · intro y
        have := hlt e3 he3 i y
        omega
    · rw [updF_ne _ _ hb] at hi
      by_cases hb3 : e3.blk = e.blk
      · rw [hb3, updF_same]
        intro y
        rcases hv i y with x | x
        · exact h.ap e2 he2 e he hb i hi x
        · have := hlt e2 he2 i hi
          omega
      · rw [updF_ne _ _ hb3]
        exact h.ap e2 he2 e3 he3 hne i hi
  · rcases hs with x | x
    · exact two_boxes h1.box hR.box (by decide) x
    · exact own_ne hR.row h1.box (by decide) _ x rfl
  · rcases hs with x | x
    · exact own_ne h1.row hR.box (by decide) i hi x
    · exact own_two h1.row hR.row (by decide) i hi x
end
end Go.Proofs.YtlokhhjhckiloaaGreat
/- coord: the document's Beat, Leave, Sync, and what else stays as it was. No condition but that calls are not too many. -/
namespace Go.Proofs.YtlokhhjhckiloaaGreat
open Go.RowKit Go.Maps Go.ChangeMaps Go.WideMaps
set_option linter.unusedVariables false
/-- What a call of the document leaves. -/
def KK (W w0 : World) (q t : Nat) (k ss rb : Int) (st : List UInt8 → Option GD) (n : Nat) (O : List Of.KE) (w' : World) : Prop :=
  KeepK w0 w' ∧ ∃ c A F V' D', KO W w' q c t A k ss rb F V' D' O ∧ (∀ s, gv F D' s = st s) ∧ F.length = n
def kbeCE (g : Option GD) (m gen now : Int) : Int := match g with | some G => kbeatE m gen now G | none => 11
def kleCE (g : Option GD) (m now : Int) : Int := match g with | some G => kleaveE m now G | none => 11
section
variable {W w w' : World} {q c t : Nat} {A : Option Addr} {k ss rb : Int} {F : List CE} {V : Nat → Value} {D : Nat → GD} {O : List Of.KE}
theorem gvk_upd {e : CE} {G' : GD} (h : KO W w q c t A k ss rb F V D O) (he : e ∈ F) (n : List UInt8) : gv F (updF D e.blk G') n = if n = e.name then some G' else gv F D n := by
  unfold gv
  split
  · rename_i hn
    rw [hn, ofN_some h.rise he]
    show some (updF D e.blk G' e.blk) = _
    rw [updF_same]
  · rename_i hn
    cases hf : ofN F n with
    | none => rfl
    | some y =>
      obtain ⟨h3, h4⟩ := ofN_mem hf
      show some (updF D e.blk G' y.blk) = some (D y.blk)
      rw [updF_ne]
      intro hb
      have h5 := h.nd y h3 e he hb
      rw [h4] at h5
      exact hn h5
theorem KK.stay {j : Int} (h : KO W w q c t A k ss rb F V D O) (hj : k ≤ j) {s : List UInt8} {f : GD → GD} (hs : gv F D s = none) (hb : Below w.heap.size w w') : KK W w q t j ss rb (putSt (gv F D) s ((gv F D s).map f)) F.length O w' :=
  ⟨KeepK.of_below hb, c, A, F, V, D, (h.later hb).bump hj, fun x => by
    unfold putSt
    split
    · rename_i hx
      rw [hx, hs]
      rfl
    · rfl, rfl⟩
theorem KK.call {w1 : World} {e : CE} {v' : Value} {R' : List MV} {j : Int} {f : GD → GD} (h : KO W w q c t A k ss rb F V D O) (hb : Below w.heap.size w w1) (he : e ∈ F) (h' : KIs w' W.heap.size e.blk v' R' (f (D e.blk))) (hq : GQ j (f (D e.blk))) (hn : GN (f (D e.blk))) (ho : Off (GrS e.blk (V e.blk)) w1 w') (hv : ∀ i, v'.ownBlock = some i → (V e.blk).ownBlock = some i ∨ w1.heap.size ≤ i) (hj : k ≤ j) :
    KK W w q t j ss rb (putSt (gv F D) e.name (some (f (D e.blk)))) F.length O w' := by
  obtain ⟨h1, h2⟩ := (h.later hb).call he h' hq hn ho hv hj
  refine ⟨(KeepK.of_below hb).trans h2, c, A, F, _, _, h1, fun x => ?_, rfl⟩
  rw [gvk_upd h he]
  unfold putSt
  split
  · rfl
  · rfl
set_option maxHeartbeats 4000000 in
set_option maxRecDepth 100000 in
theorem kobeat_k (h : KO W w q c t A k ss rb F V D O) (hk : k ≤ 999000) (s : ByteArray) (m gen now : Int) : Calls Tryz.prog 29 #[.pointer (some ⟨q, 0, none⟩), .string s, .int .i64 m, .int .i64 gen, .int .i64 now] w (fun e w' => e = .returned (.int .i64 (kbeCE (gv F D s.data.toList) m gen now)) ∧ KK W w q t k ss rb (putSt (gv F D) s.data.toList ((gv F D s.data.toList).map (beatD m gen now))) F.length O w') := by
  have cf := kofind_c h.is (by have := h.few; omega) s
  cases hf : ofN F s.data.toList with
  | none =>
    have hst : gv F D s.data.toList = none := by unfold gv; rw [hf]; rfl
    rw [hf] at cf
    have HH : Hid (∀ w', Below w.heap.size w w' → KK W w q t k ss rb (putSt (gv F D) s.data.toList ((gv F D s.data.toList).map (beatD m gen now))) F.length O w') := Lib.hid (fun w' hb => KK.stay (f := beatD m gen now) h (by omega) hst hb)
    have HST := Lib.hid hst
    simp only [lookV] at cf
    clear h hf hst
    go_enter Tryz.func29, Tryz.ntmps29
    go_wp2_with fail
    with_reducible refine cf.mono ?_
    rintro en w2 ⟨rfl, hb⟩
    have HB := Lib.hid hb
    clear hb
    go_wp2_with fail
    go_ret
    exact ⟨by rw [HST.out]; rfl, HH.out _ HB.out⟩
  | some e0 =>
    have he := (ofN_mem hf).1
    obtain ⟨R, hR⟩ := (h.grp e0 he).is
    have hgq := (h.grp e0 he).q
    have hgn := hgq.gn
    have ck := fun w' (hb : Below w.heap.size w w') => kbeat_c W.heap.size e0.blk (V e0.blk) R (D e0.blk) m gen now w' (hR.later hb) hgq.bd
    rw [hf] at cf
    simp only [lookV, ceV] at cf
    have HST : Hid (gv F D s.data.toList = some (D e0.blk)) := Lib.hid (by unfold gv; rw [hf]; rfl)
    have HH := Lib.hid h
    have HE := Lib.hid (And.intro he (ofN_mem hf).2)
    clear h hf he hR hgq hgn
    rw [HST.out]
    show Calls _ _ _ _ (fun e w' => e = .returned (.int .i64 (kbeatE m gen now (D e0.blk))) ∧ _)
    go_enter Tryz.func29, Tryz.ntmps29
    go_wp2_with fail
    with_reducible refine cf.mono ?_
    rintro en w2 ⟨rfl, hb⟩
    have ck2 := ck _ hb
    have HB := Lib.hid hb
    clear hb ck
    go_wp2_with fail
    with_reducible refine ck2.mono ?_
    rintro en w3 ⟨rfl, v', R', b1, b2, b3⟩
    have HC := Lib.hid (KK.call (f := beatD m gen now) HH.out HB.out HE.out.1 b1 ((HH.out.grp e0 HE.out.1).q.beat m gen now) ((HH.out.grp e0 HE.out.1).n.beat m gen now) b2 b3 (by omega))
    clear ck2 b1 b2 b3
    go_wp2_with fail
    go_ret
    have := HC.out
    rw [HE.out.2] at this
    exact ⟨rfl, this⟩
set_option maxHeartbeats 4000000 in
set_option maxRecDepth 100000 in
theorem koleave_k (h : KO W w q c t A k ss rb F V D O) (hk : k ≤ 999000) (s : ByteArray) (m now : Int) : Calls Tryz.prog 30 #[.pointer (some ⟨q, 0, none⟩), .string s, .int .i64 m, .int .i64 now] w (fun e w' => e = .returned (.int .i64 (kleCE (gv F D s.data.toList) m now)) ∧ KK W w q t (k + 1) ss rb (putSt (gv F D) s.data.toList ((gv F D s.data.toList).map (kleaveD m now))) F.length O w') := by
  have cf := kofind_c h.is (by have := h.few; omega) s
  cases hf : ofN F s.data.toList with
  | none =>
    have hst : gv F D s.data.toList = none := by unfold gv; rw [hf]; rfl
    rw [hf] at cf
    have HH : Hid (∀ w', Below w.heap.size w w' → KK W w q t (k + 1) ss rb (putSt (gv F D) s.data.toList ((gv F D s.data.toList).map (kleaveD m now))) F.length O w') := Lib.hid (fun w' hb => KK.stay (f := kleaveD m now) h (by omega) hst hb)
    have HST := Lib.hid hst
    simp only [lookV] at cf
    clear h hf hst
    go_enter Tryz.func30, Tryz.ntmps30
    go_wp2_with fail
    with_reducible refine cf.mono ?_
    rintro en w2 ⟨rfl, hb⟩
    have HB := Lib.hid hb
    clear hb
    go_wp2_with fail
    go_ret
    exact ⟨by rw [HST.out]; rfl, HH.out _ HB.out⟩
  | some e0 =>
    have he := (ofN_mem hf).1
    obtain ⟨R, hR⟩ := (h.grp e0 he).is
    have hgq := (h.grp e0 he).q
    have hgn := hgq.gn
    have ck := fun w' (hb : Below w.heap.size w w') => kleave_c W.heap.size e0.blk (V e0.blk) R (D e0.blk) m now w' (hR.later hb) hgq.bd (Nat.le_trans h.bel.size hb.size) ⟨by omega, by omega⟩
    rw [hf] at cf
    simp only [lookV, ceV] at cf
    have HST : Hid (gv F D s.data.toList = some (D e0.blk)) := Lib.hid (by unfold gv; rw [hf]; rfl)
    have HH := Lib.hid h
    have HE := Lib.hid (And.intro he (ofN_mem hf).2)
    clear h hf he hR hgq hgn
    rw [HST.out]
    show Calls _ _ _ _ (fun e w' => e = .returned (.int .i64 (kleaveE m now (D e0.blk))) ∧ _)
    go_enter Tryz.func30, Tryz.ntmps30
    go_wp2_with fail
    with_reducible refine cf.mono ?_
    rintro en w2 ⟨rfl, hb⟩
    have ck2 := ck _ hb
    have HB := Lib.hid hb
    clear hb ck
    go_wp2_with fail
    with_reducible refine ck2.mono ?_
    rintro en w3 ⟨rfl, v', R', b1, b2, b3⟩
    have HC := Lib.hid (KK.call (f := kleaveD m now) HH.out HB.out HE.out.1 b1 ((HH.out.grp e0 HE.out.1).q.kleave m now) ((HH.out.grp e0 HE.out.1).n.kleave m now) b2 b3 (by omega))
    clear ck2 b1 b2 b3
    go_wp2_with fail
    go_ret
    have := HC.out
    rw [HE.out.2] at this
    exact ⟨rfl, this⟩
end
end Go.Proofs.YtlokhhjhckiloaaGreat
/- coord: the document's May. No condition. -/
namespace Go.Proofs.YtlokhhjhckiloaaGreat
open Go.RowKit Go.Maps Go.ChangeMaps Go.WideMaps
set_option linter.unusedVariables false
section
variable {W w w' : World} {q c t : Nat} {A : Option Addr} {k ss rb : Int} {F : List CE} {V : Nat → Value} {D : Nat → GD} {O : List Of.KE}
set_option maxHeartbeats 4000000 in
set_option maxRecDepth 100000 in
theorem komay_k (h : KO W w q c t A k ss rb F V D O) (s : ByteArray) (m gen : Int) : Calls Tryz.prog 31 #[.pointer (some ⟨q, 0, none⟩), .string s, .int .i64 m, .int .i64 gen] w (Good w (.int .i64 (mayCE (gv F D s.data.toList) m gen))) := by
  have cf := kofind_c h.is (by have := h.few; omega) s
  have hc : (m = -1 ∧ gen = -1) ∨ (¬ (m = -1 ∧ gen = -1) ∧ ((m == -1) = false ∨ (m == -1) = true ∧ (gen == -1) = false)) := by
    by_cases e1 : m = -1
    · by_cases e2 : gen = -1
      · exact .inl ⟨e1, e2⟩
      · exact .inr ⟨fun x => e2 x.2, .inr ⟨by rw [e1]; rfl, beq_eq_false_iff_ne.2 e2⟩⟩
    · exact .inr ⟨fun x => e1 x.1, .inl (beq_eq_false_iff_ne.2 e1)⟩
  cases hf : ofN F s.data.toList with
  | none =>
    have hst : gv F D s.data.toList = none := by unfold gv; rw [hf]; rfl
    rw [hf] at cf
    rw [hst]
    simp only [lookV] at cf
    clear h hf hst
    rcases hc with ⟨rfl, rfl⟩ | ⟨hn, e1 | ⟨e1, e2⟩⟩
    · show Calls _ _ _ _ (Good w (.int .i64 0))
      go_enter Tryz.func31, Tryz.ntmps31
      go_wp2_with fail
      with_reducible refine cf.mono ?_
      rintro en w2 ⟨rfl, hb⟩
      go_wp2_with fail
      go_ret
      exact ⟨rfl, hb⟩
    all_goals
      unfold mayCE
      rw [if_neg hn]
      clear hn
      show Calls _ _ _ _ (Good w (.int .i64 11))
      go_enter Tryz.func31, Tryz.ntmps31
      go_wp2_with fail
      with_reducible refine cf.mono ?_
      rintro en w2 ⟨rfl, hb⟩
      go_wp2_with fail
      go_ret
      exact ⟨rfl, hb⟩
  | some e0 =>
    have he := (ofN_mem hf).1
    obtain ⟨R, hR⟩ := (h.grp e0 he).is
    have hgq := (h.grp e0 he).q
    have hst : gv F D s.data.toList = some (D e0.blk) := by unfold gv; rw [hf]; rfl
    rw [hf] at cf
    rw [hst]
    have ck := fun w' (hb : Below w.heap.size w w') => kknows_c W.heap.size e0.blk (V e0.blk) R (D e0.blk) m gen w' (hR.later hb) hgq.bd.len
    have kb := fun w' (hb : Below w.heap.size w w') => kg7 (hR.later hb).box
    simp only [lookV, ceV] at cf
    clear h hf hst hR hgq
    rcases hc with ⟨rfl, rfl⟩ | ⟨hn, e1 | ⟨e1, e2⟩⟩
    · show Calls _ _ _ _ (Good w (.int .i64 (if (D e0.blk).ph = 0 then 0 else 11)))
      clear ck
      generalize D e0.blk = G at *
      by_cases hp : G.ph = 0
      · rw [if_pos hp]
        have hp' : (G.ph == 0) = true := by rw [hp]; rfl
        clear hp
        go_enter Tryz.func31, Tryz.ntmps31
        go_wp2_with fail
        with_reducible refine cf.mono ?_
        rintro en w2 ⟨rfl, hb⟩
        obtain ⟨b0, b1, b2, b3, b4, b5, b6, bl, _⟩ := kb _ hb
        go_wp2_with fail
        go_ret
        exact ⟨rfl, hb⟩
      · rw [if_neg hp]
        have hp' : (G.ph == 0) = false := beq_eq_false_iff_ne.2 hp
        clear hp
        go_enter Tryz.func31, Tryz.ntmps31
        go_wp2_with fail
        with_reducible refine cf.mono ?_
        rintro en w2 ⟨rfl, hb⟩
        obtain ⟨b0, b1, b2, b3, b4, b5, b6, bl, _⟩ := kb _ hb
        go_wp2_with fail
        go_ret
        exact ⟨rfl, hb⟩
    all_goals
      unfold mayCE
      rw [if_neg hn]
      clear hn
      show Calls _ _ _ _ (Good w (.int .i64 (knowE m gen (D e0.blk))))
      go_enter Tryz.func31, Tryz.ntmps31
      go_wp2_with fail
      with_reducible refine cf.mono ?_
      rintro en w2 ⟨rfl, hb⟩
      have ck2 := ck _ hb
      have HB := Lib.hid hb
      clear ck kb hb
      go_wp2_with fail
      with_reducible refine ck2.mono ?_
      rintro en w3 ⟨rfl, hb3⟩
      go_wp2_with fail
      go_ret
      exact ⟨rfl, HB.out.trans (hb3.mono HB.out.size)⟩
end
end Go.Proofs.YtlokhhjhckiloaaGreat
/- coord: the document's Tick: every group is told the time, once. No condition but that calls are not too many. -/
namespace Go.Proofs.YtlokhhjhckiloaaGreat
open Go.RowKit Go.Maps Go.ChangeMaps Go.WideMaps
set_option linter.unusedVariables false
/-- Some have been told. -/
def tkG (f : GD → GD) (D : Nat → GD) (l : List CE) : Nat → GD := l.foldl (fun D x => updF D x.blk (f (D x.blk))) D
theorem tkG_snoc (f : GD → GD) (D : Nat → GD) (l : List CE) (x : CE) : tkG f D (l ++ [x]) = updF (tkG f D l) x.blk (f (tkG f D l x.blk)) := by unfold tkG; rw [List.foldl_append]; rfl
theorem tkG_ne (f : GD → GD) {b : Nat} : ∀ (l : List CE) (D : Nat → GD), (∀ x ∈ l, x.blk ≠ b) → tkG f D l b = D b
  | [], D, _ => rfl
  | x :: r, D, h => by
    show tkG f (updF D x.blk _) r b = D b
    rw [tkG_ne f r _ (fun y hy => h y (List.mem_cons_of_mem _ hy)), updF_ne _ _ (fun e => h x List.mem_cons_self e.symm)]
theorem tkG_all (f : GD → GD) : ∀ (l : List CE) (D : Nat → GD), l.Pairwise (fun a b => a.blk ≠ b.blk) → ∀ e ∈ l, tkG f D l e.blk = f (D e.blk)
  | [], D, _, e, he => by cases he
  | x :: r, D, h, e, he => by
    rw [List.pairwise_cons] at h
    show tkG f (updF D x.blk _) r e.blk = _
    by_cases hx : e.blk = x.blk
    · rw [tkG_ne f r _ (fun y hy q => h.1 y hy (hx.symm.trans q.symm)), hx, updF_same]
    · rcases List.mem_cons.1 he with rfl | he
      · exact absurd rfl hx
      · rw [tkG_all f r _ h.2 e he, updF_ne _ _ hx]
section
variable {W w w' : World} {q c t : Nat} {A : Option Addr} {k ss rb : Int} {F : List CE} {V : Nat → Value} {D : Nat → GD} {O : List Of.KE}
theorem KO.blks (h : KO W w q c t A k ss rb F V D O) : F.Pairwise (fun a b => a.blk ≠ b.blk) := by
  refine List.Pairwise.imp_of_mem (fun {a b} ha hb hab e => ?_) h.rise
  have := h.nd a ha b hb e
  rw [this, Go.WideAt.bytes_irrefl] at hab
  cases hab
set_option maxHeartbeats 4000000 in
set_option maxRecDepth 100000 in
theorem kotick_k (h : KO W w q c t A k ss rb F V D O) (hk : k ≤ 998000) (now : Int) : Calls Tryz.prog 35 #[.pointer (some ⟨q, 0, none⟩), .int .i64 now] w (fun e w' => e = .returned (.tuple #[]) ∧ KK W w q t (k + 40) ss rb (fun s => (gv F D s).map (ktickD now)) F.length O w') := by
  have HH := Lib.hid h
  have HF := Lib.hid h.few
  have HB := Lib.hid h.blks
  clear h
  go_enter Tryz.func35, Tryz.ntmps35
  go_wp2
  go_loopw [4] (fun j wr => ∃ (i : Nat) (V' : Nat → Value), j = .int .i64 i ∧ i ≤ F.length ∧ KeepK w wr ∧ KO W wr q c t A (k + 2 * i) ss rb F V' (tkG (ktickD now) D (F.take i)) O) (fun j _ => F.length - (intOf j).toNat)
  case atStart => exact ⟨0, V, rfl, Nat.zero_le _, KeepK.of_below (Below.refl _ _), HH.out.bump (by simp)⟩
  case round =>
    obtain ⟨i, V', rfl, hle, hkk, hO⟩ := hrel
    have hfew := HF.out
    obtain ⟨c0, c1, c2, c3, cl⟩ := hO.is.cells
    by_cases hi : i < F.length
    · obtain ⟨x, hx⟩ : ∃ x, F[i]? = some x := ⟨_, List.getElem?_eq_getElem hi⟩
      have hxm := List.mem_of_getElem? hx
      obtain ⟨r, rfl, hrl, q0, q1⟩ := hO.is.at_ hx
      obtain ⟨R, hR⟩ := (hO.grp x hxm).is
      have hgq := (hO.grp x hxm).q
      have hgg := hgq.gn
      have ck := ktick_c W.heap.size x.blk (V' x.blk) R _ now wr hR hgq.bd hO.bel.size ⟨by omega, by omega⟩ ((hO.grp x hxm).n.syncing now)
      have HO := Lib.hid hO
      have HX := Lib.hid (And.intro hx hxm)
      have HK := Lib.hid hkk
      have hii : (i : Int) < (F.length : Int) := by omega
      clear hO hR hgq hgg hkk hx hxm hle
      go_wp2_with fail
      with_reducible refine ck.mono ?_
      rintro en w3 ⟨rfl, v', R', b1, b2, b3⟩
      obtain ⟨h1, h2⟩ := HO.out.call HX.out.2 b1 ((HO.out.grp x HX.out.2).q.ktick now) ((HO.out.grp x HX.out.2).n.ktick now) b2 b3 (by omega)
      have H1 : Hid (KO W w3 q c t (some ⟨r, 0, none⟩) (k + 2 * ((i + 1 : Nat) : Int)) ss rb F (updF V' x.blk v') (tkG (ktickD now) D (F.take (i + 1))) O) := Lib.hid (by
        rw [List.take_add_one, HX.out.1]
        show KO W w3 q c t _ _ ss rb F _ (tkG (ktickD now) D (F.take i ++ [x])) O
        rw [tkG_snoc]
        exact h1.bump (by omega))
      have H2 := Lib.hid (HK.out.trans h2)
      clear ck b1 b2 b3 h1 h2 q0 q1 c0 c1 c2 c3
      go_wp2_with fail
      go_roundw
      case rel => exact ⟨i + 1, updF V' x.blk v', by go_num, hi, H2.out, H1.out⟩
      case measure => simp [intOf]; omega
    · have hii : i = F.length := by omega
      subst hii
      rw [List.take_length] at hO
      have HO := Lib.hid (hO.bump (show k + 2 * ((F.length : Nat) : Int) ≤ k + 40 by omega))
      have HK := Lib.hid hkk
      have hni : ¬ (F.length : Int) < (F.length : Int) := by omega
      clear hO hkk hle
      go_wp2_with fail
      go_end0
      refine ⟨rfl, HK.out, c, A, F, V', _, HO.out, fun s => ?_, rfl⟩
      show gv F (tkG (ktickD now) D F) s = (gv F D s).map (ktickD now)
      unfold gv
      cases hf : ofN F s with
      | none => rfl
      | some e => exact congrArg some (tkG_all _ F D HB.out e (ofN_mem hf).1)
end
end Go.Proofs.YtlokhhjhckiloaaGreat
/- coord: the document's Sync. No condition but that texts are not too long. -/
namespace Go.Proofs.YtlokhhjhckiloaaGreat
open Go.RowKit Go.Maps Go.ChangeMaps Go.WideMaps
set_option linter.unusedVariables false
section
variable {W w w' : World} {q c t : Nat} {A : Option Addr} {k ss rb : Int} {F : List CE} {V : Nat → Value} {D : Nat → GD} {O : List Of.KE}
theorem tp_far {T : List TX} {A2 : Option Addr} (hT : TpIn W A2 T) (hp : 0 < T.length) {S : Nat → Prop} (hS : ∀ j, S j → W.heap.size ≤ j) : ∀ a, A2 = some a → ¬ S a.block := fun a ha hs => by
  obtain ⟨b, off, e, hlt, _⟩ := hT hp
  rw [e] at ha
  injection ha with ha
  have h2 := hS _ hs
  rw [← ha] at h2
  have h3 : W.heap.size ≤ b := h2
  omega
set_option maxHeartbeats 4000000 in
set_option maxRecDepth 100000 in
theorem kosync_k (h : KO W w q c t A k ss rb F V D O) (s : ByteArray) (m gen now : Int) (T : List TX) (A2 : Option Addr) (c2 : Nat) (round : Bool) (hT : TpIn W A2 T) (hTl : T.length ≤ 140737488351232) (hTz : ∀ t ∈ T, t.1.size ≤ 281474976710656) :
    Calls Tryz.prog 27 #[.pointer (some ⟨q, 0, none⟩), .string s, .int .i64 m, .int .i64 gen, .slice A2 T.length c2, .bool round, .int .i64 now] w (fun e w' => ∃ A3 c3 P, e = .returned (.tuple #[.slice A3 P.length c3, .int .i64 (sycE (gv F D s.data.toList) m gen T now)]) ∧ w'.ownsRow W.heap.size 34 2 (.slice A3 P.length c3) P.length (prtC P) ∧
      KK W w q t k ss rb (putSt (gv F D) s.data.toList ((gv F D s.data.toList).map (syncD m gen T round now))) F.length O w') := by
  have cf := kofind_c h.is (by have := h.few; omega) s
  cases hf : ofN F s.data.toList with
  | none =>
    have hst : gv F D s.data.toList = none := by unfold gv; rw [hf]; rfl
    rw [hf] at cf
    have HH : Hid (∀ w', Below w.heap.size w w' → KK W w q t k ss rb (putSt (gv F D) s.data.toList ((gv F D s.data.toList).map (syncD m gen T round now))) F.length O w') := Lib.hid (fun w' hb => KK.stay (f := syncD m gen T round now) h (by omega) hst hb)
    have HST := Lib.hid hst
    simp only [lookV] at cf
    clear h hf hst
    go_enter Tryz.func27, Tryz.ntmps27
    go_wp2_with fail
    with_reducible refine cf.mono ?_
    rintro en w2 ⟨rfl, hb⟩
    have HB := Lib.hid hb
    clear hb
    go_wp2_with fail
    go_ret2
    exact ⟨none, 0, [], by rw [HST.out]; rfl, World.ownsRow_nil _ _ _ _, HH.out _ HB.out⟩
  | some e0 =>
    have he := (ofN_mem hf).1
    obtain ⟨R, hR⟩ := (h.grp e0 he).is
    have hgq := (h.grp e0 he).q
    have hgn := hgq.gn
    have ck := fun w' (hb : Below w.heap.size w w') => ksync_c W.heap.size e0.blk (V e0.blk) R (D e0.blk) m gen now T A2 c2 round w' (hR.later hb) hgq.bd hgq.len (Nat.le_trans h.bel.size hb.size) (fun x hx => (hgq.all x hx).1.1) (hT.below (h.bel.trans (hb.mono h.bel.size))) hTl hTz (fun hp => tp_far hT hp (fun j hj => (hR.lt j hj).1))
    rw [hf] at cf
    simp only [lookV, ceV] at cf
    have HST : Hid (gv F D s.data.toList = some (D e0.blk)) := Lib.hid (by unfold gv; rw [hf]; rfl)
    have HH := Lib.hid h
    have HE := Lib.hid (And.intro he (ofN_mem hf).2)
    clear h hf he hR hgq hgn hT
    rw [HST.out]
    show Calls _ _ _ _ (fun e w' => ∃ A3 c3 P, e = .returned (.tuple #[.slice A3 (List.length P) c3, .int .i64 (syncE m gen T now (D e0.blk))]) ∧ w'.ownsRow W.heap.size 34 2 (.slice A3 P.length c3) P.length (prtC P) ∧ _)
    go_enter Tryz.func27, Tryz.ntmps27
    go_wp2_with fail
    with_reducible refine cf.mono ?_
    rintro en w2 ⟨rfl, hb⟩
    have ck2 := ck _ hb
    have HB := Lib.hid hb
    clear hb ck
    go_wp2_with fail
    with_reducible refine ck2.mono ?_
    rintro en w3 ⟨A3, c3, P, rfl, hr, v', R', b1, b2, b3⟩
    have HC := Lib.hid (KK.call (f := syncD m gen T round now) HH.out HB.out HE.out.1 b1 ((HH.out.grp e0 HE.out.1).q.sync m gen T round now hTz) ((HH.out.grp e0 HE.out.1).n.sync m gen T round now) b2 b3 (by omega))
    have HR := Lib.hid hr
    clear ck2 b1 b2 b3 hr
    go_wp2_with fail
    go_ret2
    have := HC.out
    rw [HE.out.2] at this
    exact ⟨A3, c3, P, rfl, HR.out, this⟩
end
end Go.Proofs.YtlokhhjhckiloaaGreat
/- coord: the document's table within its coordinator: Commit, Get, Drop. No condition but that texts are not too long. -/
namespace Go.Proofs.YtlokhhjhckiloaaGreat
open Go.RowKit Go.Maps Go.ChangeMaps Go.WideMaps
set_option linter.unusedVariables false
section
variable {W w w' : World} {q c t : Nat} {A : Option Addr} {k ss rb : Int} {F : List CE} {V : Nat → Value} {D : Nat → GD} {O O' : List Of.KE}
theorem tab_box {w w' : World} {b : Nat} {ty : TypeId} {cs : Array Value} (h : Of.KeepO Of.badD w w') (hb : Box w b ty cs) (h1 : ty ≠ 73) (h2 : ty ≠ 117) : Box w' b ty cs := h.box hb h1 h2
theorem tab_row {w w' : World} {base ty size n : Nat} {v : Value} {xs : List Value} (h : Of.KeepO Of.badD w w') (hr : w.ownsRow base ty size v n xs) (h1 : ty ≠ 73) (h2 : ty ≠ 117) : w'.ownsRow base ty size v n xs := by
  refine ⟨hr.1, ?_⟩
  rcases hr.2 with h0 | ⟨g, cap, cur, hv, hb, hg, hx⟩
  · exact .inl h0
  · refine .inr ⟨g, cap, cur, hv, hb, h g _ hg (fun ⟨cs', fr, e⟩ => ?_), hx⟩
    rcases e with e | e <;> (injection e with _ e2 _; first | exact h1 e2 | exact h2 e2)
/-- The table has turned, no more. -/
theorem KO.table {L : List Of.KE} {A2 : Option Addr} {c2 : Nat} (h : KO W w q c t A k ss rb F V D O) (hk : Of.KeepO Of.badD w w') (hbel : Below W.heap.size w w') (h1 : Of.RdIs w' W.heap.size t 1000 L A2 c2) (h2 : Of.DL L O') (hok : Of.FOk 1000 O') : KK W w q t k ss rb (gv F D) F.length O' w' := by
  refine ⟨KeepK.of_table hk, c, A, F, V, D, ⟨⟨tab_box hk h.is.box (by decide) (by decide), tab_row hk h.is.row (by decide) (by decide), h.is.base⟩, h.rise, fun e he => ?_, h.nd, h.ap, ⟨L, A2, c2, h1, h2⟩, hok, h.ht, h.bel.trans hbel, h.few, h.nm, h.ss, h.rb⟩, fun s => rfl, rfl⟩
  obtain ⟨R, hR⟩ := (h.grp e he).is
  exact ⟨⟨R, tab_box hk hR.box (by decide) (by decide), hR.base, tab_row hk hR.row (by decide) (by decide), fun x hx => ⟨tab_row hk (hR.all x hx).tr (by decide) (by decide), tab_row hk (hR.all x hx).pr (by decide) (by decide)⟩, hR.abs⟩, (h.grp e he).q, (h.grp e he).n⟩
theorem kocommit_k (h : KO W w q c t A k ss rb F V D O) (x : Of.KY) (a : Int) (hg : x.g.size ≤ 140737488351232) (ht : x.t.size ≤ 140737488351232) :
    Calls Tryz.prog 32 #[.pointer (some ⟨t, 0, none⟩), .string x.g, .agg #[.string x.t, .int .i64 x.i], .int .i64 a] w (fun e w' => e = .returned (.int .i64 (Of.coR 1000 O x a)) ∧ KK W w q t k ss rb (gv F D) F.length (Of.coS 1000 O x a) w') := by
  obtain ⟨L, A2, c2, h1, h2⟩ := h.rd
  refine (Of.dcommit_c _ t c2 1000 L O A2 x a w h1 h2 h.ok h.bel.size h.ht hg ht).mono ?_
  rintro e w' ⟨he, ⟨L', A', c', h3, h4⟩, h5, h6⟩
  exact ⟨he, h.table h5 h6 h3 h4 (h.ok.commit x a)⟩
theorem koget_k (h : KO W w q c t A k ss rb F V D O) (x : Of.KY) (hx : Of.KyOk x) :
    Calls Tryz.prog 33 #[.pointer (some ⟨t, 0, none⟩), .string x.g, .agg #[.string x.t, .int .i64 x.i]] w (fun e w' => e = .returned (.tuple #[.int .i64 (Of.geR O x).1, .bool (Of.geR O x).2]) ∧ Below w.heap.size w w') := by
  obtain ⟨L, A2, c2, h1, h2⟩ := h.rd
  have := Of.dget_c _ t c2 1000 L A2 x w h1 (by rw [h2.len]; exact h.ok.many)
  rw [h2.get h.ok hx] at this
  exact this
theorem kodrop_k (h : KO W w q c t A k ss rb F V D O) (s : ByteArray) :
    Calls Tryz.prog 34 #[.pointer (some ⟨t, 0, none⟩), .string s] w (fun e w' => e = .returned (.int .i64 ((O.length : Int) - ((Of.outT O s).length : Int))) ∧ KK W w q t k ss rb (gv F D) F.length (Of.outT O s) w') := by
  obtain ⟨L, A2, c2, h1, h2⟩ := h.rd
  refine (Of.ddrop_c _ t c2 1000 L A2 s w h1 (by rw [h2.len]; exact h.ok.many) h.bel.size h.ht).mono ?_
  have hf := h2.filter (fun e => !(decide (e.1.t = s)))
  rintro e w' ⟨he, ⟨A', c', h3⟩, h5, h6⟩
  refine ⟨?_, h.table h5 h6 h3 hf (h.ok.sub (fun e he => (List.mem_filter.1 he).1) (Of.outT_len O s))⟩
  rw [he, hf.len, h2.len]
  rfl
end
end Go.Proofs.YtlokhhjhckiloaaGreat
/- coord: the document's New. No condition. -/
namespace Go.Proofs.YtlokhhjhckiloaaGreat
open Go.RowKit Go.Maps Go.ChangeMaps Go.WideMaps
set_option linter.unusedVariables false
set_option maxHeartbeats 4000000 in
set_option maxRecDepth 100000 in
theorem konew_k (W w : World) (ss rb : Int) (hs : 1 ≤ ss ∧ ss ≤ 100000) (hr : 1 ≤ rb ∧ rb ≤ 100000) (hb : Below W.heap.size W w) :
    Calls Tryz.prog 8 #[.int .i64 ss, .int .i64 rb] w (fun e w' => Below w.heap.size w w' ∧ ∃ q t, e = .returned (.pointer (some ⟨q, 0, none⟩)) ∧ KO W w' q 0 t none 0 ss rb [] (fun _ => undef) (fun _ => zG) []) := by
  have HB := Lib.hid hb
  clear hb
  go_enter Tryz.func8, Tryz.ntmps8
  go_wp2_with fail
  go_ret
  have hsz := HB.out.size
  have hA : Below w.heap.size w (w.alloc (.cells #[.int .i64 1000, .slice none 0 0] 73)) := (Below.refl _ _).alloc (Nat.le_refl _) _
  have hA2 : Below w.heap.size w ((w.alloc (.cells #[.int .i64 1000, .slice none 0 0] 73)).alloc (.cells #[.int .i64 ss, .int .i64 rb, .slice none 0 0, .pointer (some ⟨w.heap.size, 0, none⟩)] 76)) := hA.alloc (by simp) _
  have hb1 := (Box.new w 73 #[.int .i64 1000, .slice none 0 0]).alloc (.cells #[.int .i64 ss, .int .i64 rb, .slice none 0 0, .pointer (some ⟨w.heap.size, 0, none⟩)] 76)
  have hb2 := Box.new (w.alloc (.cells #[.int .i64 1000, .slice none 0 0] 73)) 76 #[.int .i64 ss, .int .i64 rb, .slice none 0 0, .pointer (some ⟨w.heap.size, 0, none⟩)]
  rw [World.size_alloc] at hb2
  refine ⟨hA2, _, w.heap.size, rfl, ⟨⟨hb2, World.ownsRow_nil _ _ _ _, by omega⟩, List.Pairwise.nil, (fun e he => by cases he), (fun e he => by cases he), (fun e he => by cases he), ⟨[], none, 0, ⟨hb1, World.ownsRow_nil _ _ _ _⟩, Of.DL.nil⟩, Of.FOk.nil (by omega) (by omega), hsz, HB.out.trans (hA2.mono hsz), by simp, (fun e he => by cases he), hs, hr⟩⟩
end Go.Proofs.YtlokhhjhckiloaaGreat
/- coord: the document's Names. No condition. -/
namespace Go.Proofs.YtlokhhjhckiloaaGreat
open Go.RowKit Go.Maps Go.ChangeMaps Go.WideMaps
set_option linter.unusedVariables false
set_option maxHeartbeats 4000000 in
set_option maxRecDepth 100000 in
theorem konames_c {B q c t : Nat} {A : Option Addr} {ss rb : Int} {F : List CE} {w : World} (h : KoIs w B q A c t ss rb F) (hF : F.length ≤ 20) :
    Calls Tryz.prog 37 #[.pointer (some ⟨q, 0, none⟩)] w (fun e w' => ∃ v, e = .returned v ∧ w'.ownsRow w.heap.size 9 1 v F.length (nmsV F) ∧ Below w.heap.size w w') := by
  obtain ⟨i0, hinf, hz0, hz1, hz2⟩ := info_parts strInfo'
  have HI := Lib.hid h
  clear h
  go_enter Tryz.func37, Tryz.ntmps37
  go_wp2_with fail
  go_loopw [3, 4] (fun out i wr => ∃ (j : Nat) (nb' : Option Addr) (cap' : Nat), out = .slice nb' j cap' ∧ i = .int .i64 j ∧ j ≤ F.length ∧ wr.ownsRow w.heap.size 9 1 (.slice nb' j cap') j (nmsV (F.take j)) ∧ Below w.heap.size w wr) (fun _ i _ => F.length - (intOf i).toNat)
  case atStart => exact ⟨0, none, 0, rfl, rfl, Nat.zero_le _, World.ownsRow_nil _ _ _ _, Below.refl _ _⟩
  case round =>
    obtain ⟨j, nb', cap', rfl, rfl, hj, hrow, hb⟩ := hrel
    have hI := HI.out.later hb
    obtain ⟨c0, c1, c2, c3, cl⟩ := hI.cells
    by_cases hjl : j < F.length
    · obtain ⟨x, hx⟩ : ∃ x, F[j]? = some x := ⟨_, List.getElem?_eq_getElem hjl⟩
      obtain ⟨r, rfl, hrl, q0, q1⟩ := hI.at_ hx
      have hji : (j : Int) < (F.length : Int) := by omega
      have HR := Lib.hid hrow
      have HKB := Lib.hid hb
      have hwsz := hb.size
      have HT : Hid (nmsV (F.take (j + 1)) = nmsV (F.take j) ++ [.string (nmA x)]) := Lib.hid (by
        rw [List.take_add_one, hx]
        simp [nmsV])
      clear hrow hb hI hx
      go_wp2_with (at_builtin; refine wpList_append_own_at _ rfl _ _ 31 rfl w.heap.size 9 i0 _ 1 16 Tryz.underlying31 hinf hz0 hz1 hz2 rfl (by decide) (.slice nb' j cap') j _ rfl (HR.out.alloc _) ⟨wr.heap.size, 0, none⟩ 1 1 [.string (nmA x)] rfl rfl (cell_one_new _ _ _) (by intro u hu; simp at hu; subst hu; rfl) (by unfold maxLen; omega) (by omega) (by simp; omega) ?_)
      intro v2 w4 hown4 hgrow4 hnil4 hlies4
      have o4 : Off (fun k => w.heap.size ≤ k) wr w4 := ((Off.refl (fun k => w.heap.size ≤ k) wr).alloc _).grown hgrow4 (fun k hk _ => (HR.out.lt k hk).1)
      have hb4 : Below w.heap.size w w4 := HKB.out.trans (o4.below HKB.out.size fun k hk => hk)
      obtain ⟨nb4, cap4, rfl⟩ : ∃ nb4 cap4, v2 = .slice nb4 (j + 1) cap4 := by
        rcases hown4.2 with ⟨hv, h0⟩ | ⟨g, cap, cur, hv, _⟩
        · omega
        · exact ⟨_, _, hv⟩
      rw [← HT.out] at hown4
      have HX := Lib.hid (And.intro hown4 hb4)
      clear hown4 hb4 o4 hgrow4 hnil4 hlies4
      go_wp2_with fail
      go_roundw
      case rel => exact ⟨j + 1, nb4, cap4, rfl, by go_num, hjl, HX.out.1, HX.out.2⟩
      case measure => simp [intOf]; omega
    · have hjj : j = F.length := by omega
      subst hjj
      rw [List.take_length] at hrow
      have HX := Lib.hid (And.intro hrow hb)
      have hni : ¬ (F.length : Int) < (F.length : Int) := by omega
      clear hrow hb hI
      go_wp2_with fail
      go_ret
      exact ⟨_, rfl, HX.out.1, HX.out.2⟩
end Go.Proofs.YtlokhhjhckiloaaGreat
/- coord: one group more in the document's row. Plain laws. No condition. -/
namespace Go.Proofs.YtlokhhjhckiloaaGreat
open Go.RowKit Go.Maps Go.ChangeMaps Go.WideMaps
set_option linter.unusedVariables false
/-- Put where it is due. -/
theorem insC_at (x : CE) : ∀ (F : List CE) (j : Nat), j ≤ F.length → (∀ i e, i < j → F[i]? = some e → bytesBefore e.name x.name = true) → (∀ e, F[j]? = some e → bytesBefore x.name e.name = true) → F.take j ++ x :: F.drop j = insC x F
  | [], 0, _, _, _ => rfl
  | [], j + 1, h, _, _ => by simp at h
  | y :: r, 0, _, _, h2 => by
    have := h2 y rfl
    show x :: y :: r = insC x (y :: r)
    unfold insC
    rw [if_pos this]
  | y :: r, j + 1, hj, h1, h2 => by
    have hy := h1 0 y (by omega) rfl
    have hn : ¬ bytesBefore x.name y.name = true := by rw [bytes_asymm hy]; decide
    have ih := insC_at x r j (by simpa using hj) (fun i e hi he => h1 (i + 1) e (by omega) (by simpa using he)) (fun e he => h2 e (by simpa using he))
    show y :: (r.take j ++ x :: r.drop j) = insC x (y :: r)
    rw [ih]
    conv => rhs; unfold insC
    rw [if_neg hn]
theorem nmdC_app (F G : List CE) : nmdC (F ++ G) = nmdC F ++ nmdC G := by unfold nmdC; rw [List.flatMap_append]
theorem nmdC_one (F : List CE) : ∀ y ∈ nmdC F, y.oneCell' = true := by
  intro y hy
  obtain ⟨x, _, hs⟩ := List.mem_flatMap.1 hy
  simp at hs
  rcases hs with rfl | rfl <;> rfl
theorem nmdC_split (F : List CE) (j : Nat) : nmdC F = nmdC (F.take j) ++ nmdC (F.drop j) := by rw [← nmdC_app, List.take_append_drop]
/-- A group just made. -/
theorem KIs.new (w : World) (B : Nat) (ss rb : Int) (hB : B ≤ w.heap.size) : KIs (w.alloc (.cells #[.int .i64 ss, .int .i64 rb, .int .i64 0, .int .i64 0, .int .i64 0, .int .i64 0, .slice none 0 0] 81)) B w.heap.size (.slice none 0 0) [] (newG ss rb) :=
  ⟨Box.new _ _ _, hB, World.ownsRow_nil _ _ _ _, (fun x hx => by cases hx), rfl⟩
section
variable {W w w' : World} {q c t : Nat} {A : Option Addr} {k ss rb : Int} {F : List CE} {V : Nat → Value} {D : Nat → GD} {O : List Of.KE}
/-- One group more. -/
theorem KO.ins {x : CE} {v : Value} {R : List MV} {G : GD} {A' : Option Addr} {c' : Nat} (h : KO W w q c t A k ss rb F V D O) (hx : KIs w W.heap.size x.blk v R G) (hq : GQ k G) (hn : GN G) (hfr : ∀ e ∈ F, e.blk ≠ x.blk) (hap : ∀ e ∈ F, ∀ j, (V e.blk).ownBlock = some j → v.ownBlock ≠ some j) (hnone : ofN F x.name = none) (hl : F.length < 20) (hxn : x.name.length ≤ 100)
    (ho : Off (fun i => i = q) w w') (hb : Box w' q 76 #[.int .i64 ss, .int .i64 rb, .slice A' (putC x F).length c', .pointer (some ⟨t, 0, none⟩)]) (hr : w'.ownsRow W.heap.size 88 2 (.slice A' (putC x F).length c') (putC x F).length (nmdC (putC x F))) :
    KO W w' q c' t A' k ss rb (putC x F) (updF V x.blk v) (updF D x.blk G) O ∧ (putC x F).length = F.length + 1 ∧ ∀ n, gv (putC x F) (updF D x.blk G) n = if n = x.name then some G else gv F D n := by
  have hqb : W.heap.size ≤ q := h.is.base
  have hbel : Below W.heap.size W w' := h.bel.trans (ho.below h.bel.size (fun i hi => by rw [hi]; exact hqb))
  have hlen : (putC x F).length = F.length + 1 := by unfold putC; rw [insC_len, minC_none hnone]
  have keep : ∀ {b : Nat} {u : Value} {R2 : List MV} {G2 : GD}, KIs w W.heap.size b u R2 G2 → KIs w' W.heap.size b u R2 G2 := fun hk => by
    have q0 : ∀ {ty size n : Nat} {y : Value} {xs : List Value}, w.ownsRow W.heap.size ty size y n xs → 76 ≠ ty → w'.ownsRow W.heap.size ty size y n xs := fun hrr hne => own_off hrr ho (fun i hi e => own_ne hrr h.is.box hne i hi e)
    exact ⟨hk.box.off ho (fun e => two_boxes hk.box h.is.box (by decide) e), hk.base, q0 hk.row (by decide), fun y hy => ⟨q0 (hk.all y hy).tr (by decide), q0 (hk.all y hy).pr (by decide)⟩, hk.abs⟩
  obtain ⟨L, A2, c2, h1, h2⟩ := h.rd
  refine ⟨⟨⟨hb, hr, h.is.base⟩, putC_rise h.rise, fun e he => ?_, fun e he e' he' hbb => ?_, fun e he e' he' hne j hj => ?_, ⟨L, A2, c2, ⟨h1.box.off ho (fun e => two_boxes h1.box h.is.box (by decide) e), own_off h1.row ho (fun i hi e => own_ne h1.row h.is.box (by decide) i hi e)⟩, h2⟩, h.ok, h.ht, hbel, by omega, fun e he => ?_, h.ss, h.rb⟩, hlen, fun n => ?_⟩
  · rcases putC_mem.1 he with rfl | ⟨he, _⟩
    · rw [updF_same, updF_same]
      exact ⟨⟨R, keep hx⟩, hq, hn⟩
    · rw [updF_ne _ _ (hfr e he), updF_ne _ _ (hfr e he)]
      obtain ⟨R2, hR2⟩ := (h.grp e he).is
      exact ⟨⟨R2, keep hR2⟩, (h.grp e he).q, (h.grp e he).n⟩
  · rcases putC_mem.1 he with rfl | ⟨he1, _⟩
    · rcases putC_mem.1 he' with rfl | ⟨he2, _⟩
      · rfl
      · exact absurd hbb.symm (hfr e' he2)
    · rcases putC_mem.1 he' with rfl | ⟨he2, _⟩
      · exact absurd hbb (hfr e he1)
      · exact h.nd e he1 e' he2 hbb
  · rcases putC_mem.1 he with rfl | ⟨he1, _⟩
    · rw [updF_same] at hj
      rcases putC_mem.1 he' with rfl | ⟨he2, _⟩
      · exact absurd rfl hne
      · rw [updF_ne _ _ (hfr e' he2)]
        exact fun y => hap e' he2 j y hj
    · rw [updF_ne _ _ (hfr e he1)] at hj
      rcases putC_mem.1 he' with rfl | ⟨he2, _⟩
      · rw [updF_same]
        exact hap e he1 j hj
      · rw [updF_ne _ _ (hfr e' he2)]
        exact h.ap e he1 e' he2 hne j hj
  · rcases putC_mem.1 he with rfl | ⟨he, _⟩
    · exact hxn
    · exact h.nm e he
  · unfold gv
    rw [ofN_put h.rise]
    split
    · show some (updF D x.blk G x.blk) = _
      rw [updF_same]
    · cases hf : ofN F n with
      | none => rfl
      | some e =>
        show some (updF D x.blk G e.blk) = some (D e.blk)
        rw [updF_ne _ _ (hfr e (ofN_mem hf).1)]
end
end Go.Proofs.YtlokhhjhckiloaaGreat
/- coord: the document's Join. No condition but that calls are not too many. -/
namespace Go.Proofs.YtlokhhjhckiloaaGreat
open Go.RowKit Go.Maps Go.ChangeMaps Go.WideMaps
set_option linter.unusedVariables false
section
variable {W w w' : World} {q c t : Nat} {A : Option Addr} {k ss rb : Int} {F : List CE} {V : Nat → Value} {D : Nat → GD} {O : List Of.KE}
set_option maxHeartbeats 4000000 in
set_option maxRecDepth 100000 in
theorem kojoin_arg (s : ByteArray) (hs : s.size < 1 ∨ 100 < s.size) (q : Nat) (m now : Int) (v : Value) (w : World) :
    Calls Tryz.prog 26 #[.pointer (some ⟨q, 0, none⟩), .string s, .int .i64 m, v, .int .i64 now] w (fun e w' => e = .returned (.tuple #[.int .i64 0, .int .i64 0, .int .i64 0, .int .i64 1]) ∧ w' = w) := by
  by_cases h1 : s.size < 1
  · have h1' : (s.size : Int) < 1 := by omega
    clear hs h1
    go_enter Tryz.func26, Tryz.ntmps26
    go_wp2_with fail
    refine bodyPost_ret (v := .tuple #[.int .i64 0, .int .i64 0, .int .i64 0, .int .i64 1]) (by simp [results, Tryz.results26, go_sem]) rfl ⟨rfl, rfl⟩
  · have h1' : ¬ (s.size : Int) < 1 := by omega
    have h2' : (100 : Int) < (s.size : Int) := by omega
    clear hs h1
    go_enter Tryz.func26, Tryz.ntmps26
    go_wp2_with fail
    refine bodyPost_ret (v := .tuple #[.int .i64 0, .int .i64 0, .int .i64 0, .int .i64 1]) (by simp [results, Tryz.results26, go_sem]) rfl ⟨rfl, rfl⟩
set_option maxHeartbeats 4000000 in
set_option maxRecDepth 100000 in
theorem kojoin_full (h : KO W w q c t A k ss rb F V D O) (s : ByteArray) (hs : 1 ≤ s.size ∧ s.size ≤ 100) (hf : ofN F s.data.toList = none) (hl : 20 ≤ F.length) (m now : Int) (v : Value) :
    Calls Tryz.prog 26 #[.pointer (some ⟨q, 0, none⟩), .string s, .int .i64 m, v, .int .i64 now] w (fun e w' => e = .returned (.tuple #[.int .i64 0, .int .i64 0, .int .i64 0, .int .i64 5]) ∧ Below w.heap.size w w') := by
  have cf := kofind_c h.is (by have := h.few; omega) s
  rw [hf] at cf
  simp only [lookV] at cf
  have HH := Lib.hid h
  have h1' : ¬ (s.size : Int) < 1 := by omega
  have h2' : ¬ (100 : Int) < (s.size : Int) := by omega
  have h3' : (20 : Int) ≤ (F.length : Int) := by omega
  clear h hf hl
  go_enter Tryz.func26, Tryz.ntmps26
  go_wp2_with fail
  with_reducible refine cf.mono ?_
  rintro en w2 ⟨rfl, hb⟩
  obtain ⟨c0, c1, c2, c3, cl⟩ := (HH.out.later hb).is.cells
  go_wp2_with fail
  refine bodyPost_ret (v := .tuple #[.int .i64 0, .int .i64 0, .int .i64 0, .int .i64 5]) (by simp [results, Tryz.results26, go_sem]) rfl ⟨rfl, hb⟩
theorem KK.later {w0 : World} {st : List UInt8 → Option GD} {n : Nat} (h : KK W w0 q t k ss rb st n O w) (hb : Below w.heap.size w w') : KK W w0 q t k ss rb st n O w' := by
  obtain ⟨h1, c, A, F, V, D, h2, h3, h4⟩ := h
  exact ⟨h1.trans (KeepK.of_below hb), c, A, F, V, D, h2.later hb, h3, h4⟩
theorem str_far {T : List ByteArray} {A2 : Option Addr} (hT : StrIn W A2 T) (hp : 0 < T.length) {S : Nat → Prop} (hS : ∀ j, S j → W.heap.size ≤ j) : ∀ a, A2 = some a → ¬ S a.block := fun a ha hs => by
  obtain ⟨b, off, e, hlt, _⟩ := hT hp
  rw [e] at ha
  injection ha with ha
  have h2 := hS _ hs
  rw [← ha] at h2
  have h3 : W.heap.size ≤ b := h2
  omega
set_option maxHeartbeats 4000000 in
set_option maxRecDepth 100000 in
theorem kojoin_old (h : KO W w q c t A k ss rb F V D O) (hk : 0 ≤ k ∧ k ≤ 999000) (s : ByteArray) (hs : 1 ≤ s.size ∧ s.size ≤ 100) {e0 : CE} (hf : ofN F s.data.toList = some e0) (m now : Int) (T : List ByteArray) (A2 : Option Addr) (c2 : Nat) (hT : StrIn W A2 T) (hTA : A2 = none → T = []) (hTl : T.length ≤ 140737488351232) (hTz : ∀ s ∈ T, s.size ≤ 281474976710656) :
    Calls Tryz.prog 26 #[.pointer (some ⟨q, 0, none⟩), .string s, .int .i64 m, .slice A2 T.length c2, .int .i64 now] w (fun e w' => ((joinE m T now (D e0.blk) ≠ 0 ∧ e = .returned (.tuple #[.int .i64 0, .int .i64 0, .int .i64 0, .int .i64 (joinE m T now (D e0.blk))])) ∨ (joinE m T now (D e0.blk) = 0 ∧ e = .returned (.tuple #[.int .i64 (joinM m (D e0.blk)), .int .i64 (joinD m T now (D e0.blk)).gn, .int .i64 (leadM (joinD m T now (D e0.blk))), .int .i64 0]))) ∧ KK W w q t (k + 2) ss rb (putSt (gv F D) s.data.toList (some (joinD m T now (D e0.blk)))) F.length O w') := by
  have cf := kofind_c h.is (by have := h.few; omega) s
  have he := (ofN_mem hf).1
  obtain ⟨R, hR⟩ := (h.grp e0 he).is
  have hgq := (h.grp e0 he).q
  have hgn := hgq.gn
  have hgx := hgq.nx
  have ck := fun w' (hb : Below w.heap.size w w') => kjoin_c W.heap.size e0.blk (V e0.blk) R (D e0.blk) m now T A2 c2 w' (hR.later hb) hgq.bd hgq.len ⟨by omega, by omega⟩ ⟨by omega, by omega⟩ (Nat.le_trans h.bel.size hb.size) (hT.below (h.bel.trans (hb.mono h.bel.size))) hTA hTl hTz (fun hp => str_far hT hp (fun j hj => (hR.lt j hj).1))
  rw [hf] at cf
  simp only [lookV, ceV] at cf
  have h1' : ¬ (s.size : Int) < 1 := by omega
  have h2' : ¬ (100 : Int) < (s.size : Int) := by omega
  have HH := Lib.hid h
  have HE := Lib.hid (And.intro he (ofN_mem hf).2)
  have HK := Lib.hid hk
  clear h hf he hR hgq hgn hgx hT hk
  go_enter Tryz.func26, Tryz.ntmps26
  go_wp2_with fail
  with_reducible refine cf.mono ?_
  rintro en w2 ⟨rfl, hb⟩
  have ck2 := ck _ hb
  have HB := Lib.hid hb
  clear hb ck cf
  go_wp2_with fail
  with_reducible refine ck2.mono ?_
  rintro en w3 ⟨rfl, v', R', b1, b2, b3⟩
  have HC := Lib.hid (KK.call (f := joinD m T now) (j := k + 2) HH.out HB.out HE.out.1 b1 ((HH.out.grp e0 HE.out.1).q.join m now T hTz) ((HH.out.grp e0 HE.out.1).n.join m now T) b2 b3 (by omega))
  have HG := Lib.hid b1
  clear ck2 b1 b2 b3
  by_cases hE : joinE m T now (D e0.blk) = 0
  · rw [hE, if_pos rfl]
    have hL := join_some hE
    have hne : R' ≠ [] := fun e => hL (by rw [← HG.out.abs, e]; rfl)
    obtain ⟨x, hx⟩ : ∃ x, R'[0]? = some x := by
      cases R' with
      | nil => exact absurd rfl hne
      | cons a l => exact ⟨a, rfl⟩
    have hlead : leadM (joinD m T now (D e0.blk)) = x.d.n := by
      unfold leadM
      rw [← HG.out.abs]
      cases R' with
      | nil => cases hx
      | cons a l =>
        have : a = x := by simpa using hx
        subst this
        rfl
    obtain ⟨g, cc, hv, hgl, _, _, q0, _⟩ := HG.out.at_ hx
    subst hv
    rw [Nat.zero_mul] at q0
    have hpos : (0 : Int) < (R'.length : Int) := by
      have := (List.getElem?_eq_some_iff.1 hx).1
      omega
    obtain ⟨d0, d1, d2, d3, d4, d5, d6, dl, _⟩ := kg7 HG.out.box
    have HE0 := Lib.hid hE
    have HLD := Lib.hid hlead
    clear hE hL hne hx hlead d0 d1 d2 d4 d5
    go_wp2_with fail
    go_quiet (fail)
    go_wp2_with fail
    refine bodyPost_ret (v := .tuple #[.int .i64 (joinM m (D e0.blk)), .int .i64 (joinD m T now (D e0.blk)).gn, .int .i64 x.d.n, .int .i64 0]) (by simp [results, Tryz.results26, go_sem]) rfl ⟨.inr ⟨HE0.out, by rw [HLD.out]⟩, ?_⟩
    have := HC.out.later (below_drewN (Below.refl _ w3) nq)
    rw [HE.out.2] at this
    exact this
  · rw [if_neg hE]
    have hE' : (joinE m T now (D e0.blk) != 0) = true := by unfold bne; rw [beq_eq_false_iff_ne.2 hE]; rfl
    have HE0 := Lib.hid hE
    clear hE
    go_wp2_with fail
    refine bodyPost_ret (v := .tuple #[.int .i64 0, .int .i64 0, .int .i64 0, .int .i64 (joinE m T now (D e0.blk))]) (by simp [results, Tryz.results26, go_sem]) rfl ⟨.inl ⟨HE0.out, rfl⟩, ?_⟩
    have := HC.out
    rw [HE.out.2] at this
    exact this
end
end Go.Proofs.YtlokhhjhckiloaaGreat
