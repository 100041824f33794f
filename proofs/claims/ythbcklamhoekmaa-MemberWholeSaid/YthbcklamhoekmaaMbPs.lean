/- member: generations never fall, and Syncing comes with a new one. Plain laws. No condition. -/
import Derived.Test.YthbcklamhoekmaaMbGi
import Derived.Test.YthbcklamhoekmaaMbOw
import Derived.Test.YthbcklamhoekmaaMbOp
import Derived.Test.YthbcklamhoekmaaKgB
namespace Go.Proofs.Ythbcklamhoekmaa
open Go.RowKit
set_option linter.unusedVariables false
/-- How generation and phase go on. -/
structure Up (d : Int) (G G' : GD) : Prop where
  lo : G.gn ≤ G'.gn
  hi : G'.gn ≤ G.gn + d
  sy : G'.ph = 2 → G.ph = 2 ∨ G.gn < G'.gn
section
variable {G G' G'' : GD}
theorem Up.refl (G : GD) : Up 0 G G := ⟨Int.le_refl _, by omega, fun h => .inl h⟩
theorem Up.trans {a b : Int} (h : Up a G G') (k : Up b G' G'') : Up (a + b) G G'' := ⟨Int.le_trans h.lo k.lo, by have := h.hi; have := k.hi; omega, fun e => by
  have := h.lo
  have := k.lo
  rcases k.sy e with e | e
  · rcases h.sy e with e | e
    · exact .inl e
    · exact .inr (by omega)
  · exact .inr (by omega)⟩
theorem Up.mono {a b : Int} (h : Up a G G') (hab : a ≤ b) : Up b G G' := ⟨h.lo, by have := h.hi; omega, h.sy⟩
theorem Up.same (h1 : G'.gn = G.gn) (h2 : G'.ph = G.ph) : Up 0 G G' := ⟨by omega, by omega, fun e => .inl (h2.symm.trans e)⟩
theorem Up.begin (now : Int) (G : GD) : Up 0 G (beginD now G) := by
  have h := beginD_gn now G
  refine ⟨by omega, by omega, fun e => ?_⟩
  unfold beginD enterD at e
  split at e
  · cases e
  · cases e
theorem Up.close (now : Int) (G : GD) : Up 1 G (closeD now G) := by
  have h := closeD_gn now G
  refine ⟨by omega, by omega, fun e => ?_⟩
  unfold closeD at e ⊢
  by_cases hL : (moreD (dropD (fun x => !x.j) G)).L = []
  · have h0 : (enterD 2 now (moreD (dropD (fun x => !x.j) G))).ph = 0 := enterD_ph0 _ _ _ hL
    rw [h0] at e; cases e
  · rw [moreD_L] at hL
    right
    rw [enterD_gn]
    unfold moreD
    rw [if_neg hL]
    show G.gn < G.gn + 1
    omega
theorem Up.drop (f : MD → Bool) (G : GD) : Up 0 G (dropD f G) := Up.same rfl rfl
theorem Up.whole (now : Int) (G : GD) : Up 1 G (wholeD now G) := by
  unfold wholeD
  split
  · exact (Up.refl G).mono (by decide)
  · exact Up.close now G
theorem Up.goOn (now : Int) (G : GD) : Up 1 G (goOnD now G) := by
  unfold goOnD
  split
  · exact Up.whole now G
  · exact (Up.begin now G).mono (by decide)
theorem Up.tick1 (now : Int) (G : GD) : Up 1 G (tick1D now G) := by
  unfold tick1D
  split
  · exact ((Up.drop _ G).trans (Up.goOn now _)).mono (by decide)
  · exact (Up.drop _ G).mono (by decide)
theorem Up.tick2 (now : Int) (G : GD) : Up 1 G (tick2D now G) := by
  unfold tick2D
  split
  · exact (Up.refl G).mono (by decide)
  · split
    · exact Up.close now G
    · split
      · exact ((Up.drop _ G).trans (Up.begin now _)).mono (by decide)
      · exact (Up.refl G).mono (by decide)
theorem Up.tick (now : Int) (G : GD) : Up 2 G (tickD now G) := by
  unfold tickD
  split
  · exact ((Up.tick1 now G).trans (Up.tick2 now _)).mono (by decide)
  · exact (Up.refl G).mono (by decide)
theorem Up.leave (m now : Int) (G : GD) : Up 2 G (leaveD m now G) := by
  unfold leaveD
  split
  · split
    · exact ((Up.drop _ G).trans (Up.goOn now _)).mono (by decide)
    · exact (Up.drop _ G).mono (by decide)
  · exact (Up.refl G).mono (by decide)
theorem Up.hear (i : Nat) (now : Int) (G : GD) : Up 0 G (hearD i now G) := by
  unfold hearD
  split
  · exact Up.same rfl rfl
  · exact Up.refl G
theorem Up.beat (m gen now : Int) (G : GD) : Up 2 G (beatD m gen now G) := by
  unfold beatD
  split
  · cases posM m G.L with
    | none => exact (Up.refl G).mono (by decide)
    | some i => exact (Up.hear i now G).mono (by decide)
  · exact (Up.refl G).mono (by decide)
theorem Up.deal (T : List TX) (round : Bool) (G : GD) : Up 0 G (dealD T round G) := by
  unfold dealD
  split
  · refine ⟨Int.le_refl _, by show G.gn ≤ G.gn + 0; omega, fun e => by cases e⟩
  · exact Up.refl G
theorem Up.sync (m gen : Int) (T : List TX) (round : Bool) (now : Int) (G : GD) : Up 2 G (syncD m gen T round now G) := by
  unfold syncD
  split
  · cases posM m G.L with
    | none => exact (Up.refl G).mono (by decide)
    | some i =>
      refine ((Up.hear i now G).trans (b := 0) ?_).mono (by decide)
      show Up 0 _ (sync2D m T round (hearD i now G))
      unfold sync2D
      split
      · split
        · exact Up.deal _ _ _
        · exact Up.refl _
      · exact Up.refl _
  · exact (Up.refl G).mono (by decide)
theorem Up.joinAt (i : Nat) (T : List ByteArray) (now : Int) (G : GD) : Up 0 G (joinAt i T now G) := by
  unfold Go.Proofs.Ythbcklamhoekmaa.joinAt
  split
  · exact Up.same rfl rfl
  · exact Up.refl G
theorem Up.join (m : Int) (T : List ByteArray) (now : Int) (G : GD) : Up 2 G (joinD m T now G) := by
  unfold joinD
  split
  · have h1 : Up 0 G (join1D m G) := by
      unfold join1D
      split
      · exact Up.same rfl rfl
      · exact Up.refl G
    have h2 : Up 0 (join1D m G) (join2D now (join1D m G)) := by
      unfold join2D
      split
      · exact Up.refl _
      · exact Up.begin _ _
    refine ((h1.trans h2).trans (b := 1) ?_).mono (by decide)
    unfold join3D
    split
    · exact ((Up.joinAt _ T now _).trans (Up.whole now _)).mono (by decide)
    · exact (Up.refl _).mono (by decide)
  · exact (Up.refl G).mono (by decide)
end
/-- What names another generation changes nothing. -/
theorem name_old {m gen : Int} {G : GD} (h : gen ≠ G.gn) : nameE m gen G ≠ 0 := by
  unfold nameE
  split
  · decide
  · rw [if_neg h]; decide
theorem know_old {m gen : Int} {G : GD} (h : gen ≠ G.gn) : knowE m gen G ≠ 0 := fun e => name_old h (know_name e)
theorem sync_old {m gen now : Int} {G : GD} (h : gen ≠ G.gn) (T : List TX) (round : Bool) : syncD m gen T round now G = G ∧ syncE m gen T now G ≠ 0 := by
  constructor
  · unfold syncD
    rw [if_neg (fun e => know_old h e.2)]
  · unfold syncE
    split
    · rw [if_neg (know_old h)]; exact know_old h
    · decide
theorem beat_old {m gen now : Int} {G : GD} (h : gen ≠ G.gn) : beatD m gen now G = G ∧ beatE m gen now G ≠ 0 := by
  constructor
  · unfold beatD
    rw [if_neg (fun e => name_old h e.2)]
  · unfold beatE
    split
    · rw [if_neg (name_old h)]; exact name_old h
    · decide
end Go.Proofs.Ythbcklamhoekmaa
/- member: a group of the program's and one of the document's side by side. No condition but that calls are not too many. -/
namespace Go.Proofs.Ythbcklamhoekmaa
open Go.RowKit
set_option linter.unusedVariables false
section
variable {W w w' : World} {B B' p q : Nat} {v u : Value} {R R' : List MV} {G K : GD} {k : Int}
theorem box_ne {w : World} {b c : Nat} {t t' : TypeId} {cs cs' : Array Value} (h : Box w b t cs) (h' : Box w c t' cs') (hne : t ≠ t') : b ≠ c := by
  intro e
  subst e
  unfold Box at h h'
  rw [h] at h'
  injection h' with h'
  injection h' with _ h2 _
  exact hne h2
theorem KIs.beside (h : KIs w B q u R K) (hg : GrIs w B' p v R' G) (ho : Off (GrS p v) w w') : KIs w' B q u R K := by
  have q0 : ∀ {t size n : Nat} {x : Value} {xs : List Value}, w.ownsRow B t size x n xs → 65 ≠ t → t ≠ 51 → w'.ownsRow B t size x n xs := fun hr hne hn2 => own_off hr ho (fun k hk hS => by
    rcases hS with rfl | e
    · exact own_ne hr hg.box hne k hk rfl
    · exact own_two hr hg.row hn2 k hk e)
  refine ⟨h.box.off ho (fun hS => ?_), h.base, q0 h.row (by decide) (by decide), fun x hx => ⟨q0 (h.all x hx).tr (by decide) (by decide), q0 (h.all x hx).pr (by decide) (by decide)⟩, h.abs⟩
  rcases hS with e | e
  · exact box_ne h.box hg.box (by decide) e
  · exact own_ne hg.row h.box (by decide) q e rfl
theorem GrIs.beside (h : GrIs w B p v R G) (hg : KIs w B' q u R' K) (ho : Off (GrS q u) w w') : GrIs w' B p v R G := by
  have q0 : ∀ {t size n : Nat} {x : Value} {xs : List Value}, w.ownsRow B t size x n xs → 48 ≠ t → t ≠ 91 → w'.ownsRow B t size x n xs := fun hr hne hn2 => own_off hr ho (fun k hk hS => by
    rcases hS with rfl | e
    · exact own_ne hr hg.box hne k hk rfl
    · exact own_two hr hg.row hn2 k hk e)
  refine ⟨h.box.off ho (fun hS => ?_), h.base, q0 h.row (by decide) (by decide), fun x hx => ⟨q0 (h.all x hx).tr (by decide) (by decide), q0 (h.all x hx).pr (by decide) (by decide)⟩, h.abs⟩
  rcases hS with e | e
  · exact box_ne h.box hg.box (by decide) e
  · exact own_ne hg.row h.box (by decide) p e rfl
/-- A row of partitions that stands beside. -/
theorem prt_beside {b n c : Nat} {A : Option Addr} {P : List TX} (h : w.ownsRow b 56 2 (.slice A n c) n (prtC P)) (hg : KIs w B' q u R' K) (ho : Off (GrS q u) w w') : w'.ownsRow b 56 2 (.slice A n c) n (prtC P) := own_off h ho (fun k hk hS => by
  rcases hS with rfl | e
  · exact own_ne h hg.box (by decide) k hk rfl
  · exact own_two h hg.row (by decide) k hk e)
/-- Both groups, of the call's own. -/
structure PR (W w : World) (p : Nat) (v : Value) (q : Nat) (u : Value) (k : Int) (G K : GD) : Prop where
  g : GO W w p v k G
  r : ∃ R, KIs w W.heap.size q u R K
  kq : GQ k K
  kn : GN K
theorem PR.later (h : PR W w p v q u k G K) (hb : Below w.heap.size w w') : PR W w' p v q u k G K := ⟨h.g.later hb, h.r.elim fun R hR => ⟨R, hR.later hb⟩, h.kq, h.kn⟩
theorem PR.bump {j : Int} (h : PR W w p v q u k G K) (hj : k ≤ j) : PR W w p v q u j G K := ⟨h.g.bump hj, h.r, h.kq.mono hj, h.kn⟩
theorem PR.klt (h : PR W w p v q u k G K) : ∀ j, GrS q u j → W.heap.size ≤ j ∧ j < w.heap.size := fun j hj => by
  obtain ⟨R, hR⟩ := h.r
  rcases hj with rfl | e
  · exact ⟨hR.base, hR.box.lt⟩
  · exact hR.row.lt _ e
theorem PR.prog {v' : Value} {G' : GD} {j : Int} (h : PR W w p v q u k G K) (h' : GO W w' p v' j G') (ho : Off (GrS p v) w w') (hj : k ≤ j) : PR W w' p v' q u j G' K := by
  obtain ⟨R, hR⟩ := h.r
  obtain ⟨R2, hR2⟩ := h.g.is
  exact ⟨h', ⟨R, hR.beside hR2 ho⟩, h.kq.mono hj, h.kn⟩
theorem PR.doc {u' : Value} {K' : GD} {R'' : List MV} {j : Int} (h : PR W w p v q u k G K) (h' : KIs w' W.heap.size q u' R'' K') (ho : Off (GrS q u) w w') (hj : k ≤ j) (hq : GQ j K') (hn : GN K') : PR W w' p v q u' j G K' := by
  obtain ⟨R, hR⟩ := h.r
  obtain ⟨R2, hR2⟩ := h.g.is
  exact ⟨⟨⟨R2, hR2.beside hR ho⟩, h.g.q.mono hj, h.g.n, h.g.bel.trans (ho.below h.g.bel.size (fun i hi => (h.klt i hi).1))⟩, ⟨_, h'⟩, hq, hn⟩
theorem arg_far {A : Option Addr} (hA : ∀ a, A = some a → a.block < W.heap.size) {S : Nat → Prop} (hS : ∀ j, S j → W.heap.size ≤ j) : ∀ a, A = some a → ¬ S a.block := fun a ha hs => by
  have h1 := hA a ha
  have h2 := hS _ hs
  omega
end
/-- Both, wherever their rows stand; and what has turned since some world. -/
def Px (W w0 : World) (S : Nat → Prop) (p q : Nat) (k : Int) (G K : GD) (w : World) : Prop := ∃ v u, PR W w p v q u k G K ∧ Off S w0 w ∧ ∀ j, (GrS p v j ∨ GrS q u j) → S j ∨ w0.heap.size ≤ j
section
variable {W w0 w w' : World} {S : Nat → Prop} {p q : Nat} {k : Int} {G K : GD}
theorem Px.later (h : Px W w0 S p q k G K w) (hb : Below w.heap.size w w') : Px W w0 S p q k G K w' := by
  obtain ⟨v, u, h, hO, hs⟩ := h
  exact ⟨v, u, h.later hb, hO.later hb, hs⟩
theorem Px.bump {j : Int} (h : Px W w0 S p q k G K w) (hj : k ≤ j) : Px W w0 S p q j G K w := by
  obtain ⟨v, u, h, hO, hs⟩ := h
  exact ⟨v, u, h.bump hj, hO, hs⟩
theorem Px.bel (h : Px W w0 S p q k G K w) : Below W.heap.size W w := by
  obtain ⟨v, u, h, _⟩ := h
  exact h.g.bel
theorem Px.off (h : Px W w0 S p q k G K w) : Off S w0 w := by
  obtain ⟨v, u, _, h, _⟩ := h
  exact h
theorem Px.gn (h : Px W w0 S p q k G K w) : (0 ≤ G.gn ∧ G.gn ≤ k) ∧ (0 ≤ K.gn ∧ K.gn ≤ k) ∧ G.L.length ≤ 20 ∧ ∀ x ∈ G.L, TOk x.T ∧ POk x.P := by
  obtain ⟨v, u, h, _⟩ := h
  exact ⟨h.g.q.gn, h.kq.gn, h.g.q.len, h.g.q.all⟩
theorem Px.kgen (h : Px W w0 S p q k G K w) : w.cell? ⟨q, 3, none⟩ = some (.int .i64 K.gn) ∧ q < w.heap.size := by
  obtain ⟨v, u, h, _⟩ := h
  obtain ⟨R, hR⟩ := h.r
  exact ⟨(hR.box.cell 3).trans rfl, hR.box.lt⟩
theorem Px.of_prog {v u v' : Value} {G' : GD} {j : Int} (hv : PR W w p v q u k G K) (hO : Off S w0 w) (hs : ∀ j, (GrS p v j ∨ GrS q u j) → S j ∨ w0.heap.size ≤ j) (h' : GO W w' p v' j G') (ho : Off (GrS p v) w w') (h3 : ∀ i, v'.ownBlock = some i → v.ownBlock = some i ∨ w.heap.size ≤ i) (hj : k ≤ j) : Px W w0 S p q j G' K w' := by
  refine ⟨v', u, hv.prog h' ho hj, hO.trans ho (fun i hi hS => ?_), fun i hi => ?_⟩
  · rcases hs i (.inl hS) with e | e
    · exact e
    · omega
  · have := hO.size
    rcases hi with (e | e) | e
    · exact hs i (.inl (.inl e))
    · rcases h3 i e with e | e
      · exact hs i (.inl (.inr e))
      · exact .inr (by omega)
    · exact hs i (.inr e)
theorem Px.of_doc {v u u' : Value} {K' : GD} {R'' : List MV} {j : Int} (hv : PR W w p v q u k G K) (hO : Off S w0 w) (hs : ∀ j, (GrS p v j ∨ GrS q u j) → S j ∨ w0.heap.size ≤ j) (h' : KIs w' W.heap.size q u' R'' K') (ho : Off (GrS q u) w w') (h3 : ∀ i, u'.ownBlock = some i → u.ownBlock = some i ∨ w.heap.size ≤ i) (hj : k ≤ j) (hq : GQ j K') (hn : GN K') : Px W w0 S p q j G K' w' := by
  refine ⟨v, u', hv.doc h' ho hj hq hn, hO.trans ho (fun i hi hS => ?_), fun i hi => ?_⟩
  · rcases hs i (.inr hS) with e | e
    · exact e
    · omega
  · have := hO.size
    rcases hi with e | (e | e)
    · exact hs i (.inl e)
    · exact hs i (.inr (.inl e))
    · rcases h3 i e with e | e
      · exact hs i (.inr (.inr e))
      · exact .inr (by omega)
/-- From now on: what both may write is what they have, and what is new. -/
theorem Px.inner (h : Px W w0 S p q k G K w) (hb : Below w.heap.size w w') : ∃ S' : Nat → Prop, (∀ j, S' j → j < w.heap.size ∧ W.heap.size ≤ j ∧ (S j ∨ w0.heap.size ≤ j)) ∧ Px W w' S' p q k G K w' ∧ ∀ (k' : Int) (G' K' : GD) (w'' : World), Px W w' S' p q k' G' K' w'' → Px W w0 S p q k' G' K' w'' := by
  obtain ⟨v, u, h, hO, hs⟩ := h
  refine ⟨fun j => GrS p v j ∨ GrS q u j, fun j hj => ?_, ⟨v, u, h.later hb, Off.refl _ _, fun j hj => .inl hj⟩, ?_⟩
  · have h9 := hs j hj
    rcases hj with e | e
    · exact ⟨(h.g.lt j e).2, (h.g.lt j e).1, h9⟩
    · exact ⟨(h.klt j e).2, (h.klt j e).1, h9⟩
  · rintro k' G' K' w'' ⟨v2, u2, h2, hO2, hs2⟩
    have hsz := hb.size
    have hsz0 := hO.size
    refine ⟨v2, u2, h2, (hO.later hb).trans hO2 (fun i hi hS => ?_), fun i hi => ?_⟩
    · rcases hs i hS with e | e
      · exact e
      · omega
    · rcases hs2 i hi with e | e
      · exact hs i e
      · exact .inr (by omega)
theorem str_blk {A : Option Addr} {T : List ByteArray} (h : StrIn W A T) (hp : 0 < T.length) : ∀ a, A = some a → a.block < W.heap.size := fun a ha => by
  obtain ⟨b, off, e, hlt, _⟩ := h hp
  rw [e] at ha
  injection ha with ha
  rw [← ha]; exact hlt
theorem tp_blk {A : Option Addr} {T : List TX} (h : TpIn W A T) (hp : 0 < T.length) : ∀ a, A = some a → a.block < W.heap.size := fun a ha => by
  obtain ⟨b, off, e, hlt, _⟩ := h hp
  rw [e] at ha
  injection ha with ha
  rw [← ha]; exact hlt
/-- The calls of the program's group. -/
theorem join_p {T : List ByteArray} {P : List TX} {TA PA : Option Addr} (h : Px W w0 S p q k G K w) (hk : k ≤ 999000) (hA : AOk W T TA P PA) (m now : Int) (c : Nat) :
    Calls Try.prog 10 #[.pointer (some ⟨p, 0, none⟩), .int .i64 m, .slice TA T.length c, .int .i64 now] w (fun en w' => ∃ a1 e1 : Int, en = .returned (.tuple #[.int .i64 a1, .int .i64 e1]) ∧ Px W w0 S p q (k + 2) (joinD m T now G) K w') := by
  obtain ⟨v, u, hv, hO, hs⟩ := h
  refine (join_v hv.g hk m now T TA c (hA.str.below hv.g.bel) hA.tl hA.tz (fun hp => arg_far (str_blk hA.str hp) (fun j hj => (hv.g.lt j hj).1))).mono ?_
  rintro en w' ⟨rfl, v', h1, h2, h3⟩
  exact ⟨_, _, rfl, Px.of_prog hv hO hs h1 h2 h3 (by omega)⟩
theorem sync_p {T : List ByteArray} {P : List TX} {TA PA : Option Addr} (h : Px W w0 S p q k G K w) (hA : AOk W T TA P PA) (m gen now : Int) (c : Nat) (round : Bool) :
    Calls Try.prog 11 #[.pointer (some ⟨p, 0, none⟩), .int .i64 m, .int .i64 gen, .slice PA P.length c, .bool round, .int .i64 now] w (fun en w' => ∃ A c2, en = .returned (.tuple #[.slice A (syncP m gen P round now G).length c2, .int .i64 (syncE m gen P now G)]) ∧ w'.ownsRow w.heap.size 56 2 (.slice A (syncP m gen P round now G).length c2) (syncP m gen P round now G).length (prtC (syncP m gen P round now G)) ∧ Px W w0 S p q k (syncD m gen P round now G) K w') := by
  obtain ⟨v, u, hv, hO, hs⟩ := h
  refine (sync_v hv.g m gen now P PA c round (hA.top.below hv.g.bel) hA.pl hA.pz (fun hp => arg_far (tp_blk hA.top hp) (fun j hj => (hv.g.lt j hj).1))).mono ?_
  rintro en w' ⟨A, c2, rfl, ho, v', h1, h2, h3⟩
  exact ⟨A, c2, rfl, ho, Px.of_prog hv hO hs h1 h2 h3 (by omega)⟩
theorem beat_p (h : Px W w0 S p q k G K w) (m gen now : Int) :
    Calls Try.prog 14 #[.pointer (some ⟨p, 0, none⟩), .int .i64 m, .int .i64 gen, .int .i64 now] w (fun en w' => en = .returned (.int .i64 (beatE m gen now G)) ∧ Px W w0 S p q k (beatD m gen now G) K w') := by
  obtain ⟨v, u, hv, hO, hs⟩ := h
  refine (beat_v hv.g m gen now).mono ?_
  rintro en w' ⟨rfl, v', h1, h2, h3⟩
  exact ⟨rfl, Px.of_prog hv hO hs h1 h2 h3 (by omega)⟩
theorem leave_p (h : Px W w0 S p q k G K w) (hk : k ≤ 999000) (m now : Int) :
    Calls Try.prog 15 #[.pointer (some ⟨p, 0, none⟩), .int .i64 m, .int .i64 now] w (fun en w' => en = .returned (.int .i64 (leaveE m now G)) ∧ Px W w0 S p q (k + 1) (leaveD m now G) K w') := by
  obtain ⟨v, u, hv, hO, hs⟩ := h
  refine (leave_v hv.g hk m now).mono ?_
  rintro en w' ⟨rfl, v', h1, h2, h3⟩
  exact ⟨rfl, Px.of_prog hv hO hs h1 h2 h3 (by omega)⟩
theorem tick_p (h : Px W w0 S p q k G K w) (hk : k ≤ 999000) (now : Int) :
    Calls Try.prog 12 #[.pointer (some ⟨p, 0, none⟩), .int .i64 now] w (fun en w' => en = .returned (.tuple #[]) ∧ Px W w0 S p q (k + 2) (tickD now G) K w') := by
  obtain ⟨v, u, hv, hO, hs⟩ := h
  refine (tick_v hv.g hk now).mono ?_
  rintro en w' ⟨rfl, v', h1, h2, h3⟩
  exact ⟨rfl, Px.of_prog hv hO hs h1 h2 h3 (by omega)⟩
theorem knows_p (h : Px W w0 S p q k G K w) (m gen : Int) :
    Calls Try.prog 16 #[.pointer (some ⟨p, 0, none⟩), .int .i64 m, .int .i64 gen] w (fun en w' => en = .returned (.int .i64 (knowE m gen G)) ∧ Px W w0 S p q k G K w') := by
  obtain ⟨v, u, hv, hO, hs⟩ := h
  refine (knows_v hv.g m gen).mono ?_
  rintro en w' ⟨rfl, hb⟩
  exact ⟨rfl, v, u, hv.later hb, hO.later hb, hs⟩
theorem view_p (h : Px W w0 S p q k G K w) :
    Calls Try.prog 13 #[.pointer (some ⟨p, 0, none⟩)] w (fun en w' => ∃ v R, ∃ S' : Nat → Prop, en = .returned (.agg #[.int .i64 G.ph, .int .i64 G.gn, .int .i64 G.nx, .int .i64 G.un, v]) ∧ w'.ownsRow w.heap.size 51 5 v R.length (mvR R) ∧ (∀ x ∈ R, MvOk w' w.heap.size x) ∧ R.map MV.d = G.L ∧ Below w.heap.size w w' ∧ (∀ j, S' j → j < w.heap.size ∧ W.heap.size ≤ j ∧ (S j ∨ w0.heap.size ≤ j)) ∧ Px W w' S' p q k G K w') := by
  obtain ⟨v, u, hv, hO, hs⟩ := h
  refine (view_v hv.g).mono ?_
  rintro en w' ⟨v', R, rfl, h1, h2, h3, hb⟩
  refine ⟨v', R, fun j => GrS p v j ∨ GrS q u j, rfl, h1, h2, h3, hb, fun j hj => ?_, v, u, hv.later hb, Off.refl _ _, fun j hj => .inl hj⟩
  have h9 := hs j hj
  rcases hj with e | e
  · exact ⟨(hv.g.lt j e).2, (hv.g.lt j e).1, h9⟩
  · exact ⟨(hv.klt j e).2, (hv.klt j e).1, h9⟩
/-- The calls of the document's. -/
theorem join_k {T : List ByteArray} {P : List TX} {TA PA : Option Addr} (h : Px W w0 S p q k G K w) (hk : k ≤ 999000) (hA : AOk W T TA P PA) (m now : Int) (c : Nat) :
    Calls Try.prog 37 #[.pointer (some ⟨q, 0, none⟩), .int .i64 m, .slice TA T.length c, .int .i64 now] w (fun en w' => ∃ a1 e1 : Int, en = .returned (.tuple #[.int .i64 a1, .int .i64 e1]) ∧ Px W w0 S p q (k + 2) G (joinD m T now K) w') := by
  obtain ⟨v, u, hv, hO, hs⟩ := h
  obtain ⟨R, hR⟩ := hv.r
  have h1 := hv.kq.gn
  have h2 := hv.kq.nx
  have hTA : TA = none → T = [] := fun e => by
    cases T with
    | nil => rfl
    | cons a l =>
      obtain ⟨b, off, e2, _⟩ := hA.str (by simp)
      rw [e] at e2
      cases e2
  refine (kjoin_c W.heap.size q u R K m now T TA c w hR hv.kq.bd hv.kq.len ⟨by omega, by omega⟩ ⟨by omega, by omega⟩ hv.g.bel.size (hA.str.below hv.g.bel) hTA hA.tl hA.tz (fun hp => arg_far (str_blk hA.str hp) (fun j hj => (hv.klt j hj).1))).mono ?_
  rintro en w' ⟨rfl, v', R', h1, h2, h3⟩
  exact ⟨_, _, rfl, Px.of_doc hv hO hs h1 h2 h3 (by omega) (hv.kq.join m now T hA.tz) (hv.kn.join m now T)⟩
theorem sync_k {T : List ByteArray} {P : List TX} {TA PA : Option Addr} (h : Px W w0 S p q k G K w) (hA : AOk W T TA P PA) (m gen now : Int) (c : Nat) (round : Bool) :
    Calls Try.prog 38 #[.pointer (some ⟨q, 0, none⟩), .int .i64 m, .int .i64 gen, .slice PA P.length c, .bool round, .int .i64 now] w (fun en w' => ∃ A c2 Q, en = .returned (.tuple #[.slice A Q.length c2, .int .i64 (syncE m gen P now K)]) ∧ w'.ownsRow W.heap.size 56 2 (.slice A Q.length c2) Q.length (prtC Q) ∧ Px W w0 S p q k G (syncD m gen P round now K) w' ∧ ∀ (b n c : Nat) (B : Option Addr) (Z : List TX), w.ownsRow b 56 2 (.slice B n c) n (prtC Z) → w'.ownsRow b 56 2 (.slice B n c) n (prtC Z)) := by
  obtain ⟨v, u, hv, hO, hs⟩ := h
  obtain ⟨R, hR⟩ := hv.r
  refine (ksync_c W.heap.size q u R K m gen now P PA c round w hR hv.kq.bd hv.kq.len hv.g.bel.size (fun x hx => (hv.kq.all x hx).1.1) (hA.top.below hv.g.bel) hA.pl hA.pz (fun hp => arg_far (tp_blk hA.top hp) (fun j hj => (hv.klt j hj).1))).mono ?_
  rintro en w' ⟨A, c2, Q, rfl, ho, v', R', h1, h2, h3⟩
  exact ⟨A, c2, Q, rfl, ho, Px.of_doc hv hO hs h1 h2 h3 (by omega) (hv.kq.sync m gen P round now hA.pz) (hv.kn.sync m gen P round now), fun b n c B Z hz => prt_beside hz hR h2⟩
theorem beat_k (h : Px W w0 S p q k G K w) (m gen now : Int) :
    Calls Try.prog 40 #[.pointer (some ⟨q, 0, none⟩), .int .i64 m, .int .i64 gen, .int .i64 now] w (fun en w' => en = .returned (.int .i64 (kbeatE m gen now K)) ∧ Px W w0 S p q k G (beatD m gen now K) w') := by
  obtain ⟨v, u, hv, hO, hs⟩ := h
  obtain ⟨R, hR⟩ := hv.r
  refine (kbeat_c W.heap.size q u R K m gen now w hR hv.kq.bd).mono ?_
  rintro en w' ⟨rfl, v', R', h1, h2, h3⟩
  exact ⟨rfl, Px.of_doc hv hO hs h1 h2 h3 (by omega) (hv.kq.beat m gen now) (hv.kn.beat m gen now)⟩
theorem leave_k (h : Px W w0 S p q k G K w) (hk : k ≤ 999000) (m now : Int) :
    Calls Try.prog 41 #[.pointer (some ⟨q, 0, none⟩), .int .i64 m, .int .i64 now] w (fun en w' => en = .returned (.int .i64 (kleaveE m now K)) ∧ Px W w0 S p q (k + 1) G (kleaveD m now K) w') := by
  obtain ⟨v, u, hv, hO, hs⟩ := h
  obtain ⟨R, hR⟩ := hv.r
  have h1 := hv.kq.gn
  refine (kleave_c W.heap.size q u R K m now w hR hv.kq.bd hv.g.bel.size ⟨by omega, by omega⟩).mono ?_
  rintro en w' ⟨rfl, v', R', h1, h2, h3⟩
  exact ⟨rfl, Px.of_doc hv hO hs h1 h2 h3 (by omega) (hv.kq.kleave m now) (hv.kn.kleave m now)⟩
theorem tick_k (h : Px W w0 S p q k G K w) (hk : k ≤ 999000) (now : Int) :
    Calls Try.prog 42 #[.pointer (some ⟨q, 0, none⟩), .int .i64 now] w (fun en w' => en = .returned (.tuple #[]) ∧ Px W w0 S p q (k + 2) G (ktickD now K) w') := by
  obtain ⟨v, u, hv, hO, hs⟩ := h
  obtain ⟨R, hR⟩ := hv.r
  have h1 := hv.kq.gn
  refine (ktick_c W.heap.size q u R K now w hR hv.kq.bd hv.g.bel.size ⟨by omega, by omega⟩ (hv.kn.syncing now)).mono ?_
  rintro en w' ⟨rfl, v', R', h1, h2, h3⟩
  exact ⟨rfl, Px.of_doc hv hO hs h1 h2 h3 (by omega) (hv.kq.ktick now) (hv.kn.ktick now)⟩
theorem knows_k (h : Px W w0 S p q k G K w) (m gen : Int) :
    Calls Try.prog 43 #[.pointer (some ⟨q, 0, none⟩), .int .i64 m, .int .i64 gen] w (fun en w' => en = .returned (.int .i64 (knowE m gen K)) ∧ Px W w0 S p q k G K w') := by
  obtain ⟨v, u, hv, hO, hs⟩ := h
  obtain ⟨R, hR⟩ := hv.r
  have := hv.kq.bd.len
  refine (kknows_c W.heap.size q u R K m gen w hR hv.kq.bd.len).mono ?_
  rintro en w' ⟨rfl, hb⟩
  exact ⟨rfl, v, u, hv.later hb, hO.later hb, hs⟩
end
end Go.Proofs.Ythbcklamhoekmaa
/- member: a step of both groups, by a contract. No condition but that calls are not too many. -/
namespace Go.Proofs.Ythbcklamhoekmaa
open Go.RowKit
set_option linter.unusedVariables false
def smallB (x : OM) : Bool := decide (x.T.length ≤ 30) && decide (x.P.length ≤ 30)
theorem om7 {w : World} {b : Nat} {t : TypeId} {x : OM} (h : Box w b t (omL x).toArray) : w.cell? ⟨b, 0, none⟩ = some (.int .i64 x.do_) ∧ w.cell? ⟨b, 1, none⟩ = some (.int .i64 x.m) ∧ w.cell? ⟨b, 2, none⟩ = some (.slice x.TA x.T.length x.tc) ∧ w.cell? ⟨b, 3, none⟩ = some (.int .i64 x.gen) ∧ w.cell? ⟨b, 4, none⟩ = some (.slice x.PA x.P.length x.pc) ∧ w.cell? ⟨b, 5, none⟩ = some (.bool x.rnd) ∧ w.cell? ⟨b, 6, none⟩ = some (.int .i64 x.now) ∧ b < w.heap.size :=
  ⟨(h.cell 0).trans rfl, (h.cell 1).trans rfl, (h.cell 2).trans rfl, (h.cell 3).trans rfl, (h.cell 4).trans rfl, (h.cell 5).trans rfl, (h.cell 6).trans rfl, h.lt⟩
set_option maxRecDepth 100000 in
theorem small_c (x : OM) (W : World) : Calls Try.prog 18 #[.agg (omL x).toArray] W (fun e w' => e = .returned (.bool (smallB x)) ∧ Below W.heap.size W w') := by
  have hB : Below W.heap.size W (W.alloc (.cells (omL x).toArray 25)) := (Below.refl _ _).alloc (Nat.le_refl _) _
  obtain ⟨x0, x1, x2, x3, x4, x5, x6, xl⟩ := om7 (Box.new W 25 (omL x).toArray)
  have HB := Lib.hid hB
  clear hB
  unfold smallB
  by_cases h : x.T.length ≤ 30
  · rw [decide_eq_true h]
    have hi : (x.T.length : Int) ≤ 30 := by omega
    by_cases h2 : x.P.length ≤ 30
    · rw [decide_eq_true h2]
      have hi2 : (x.P.length : Int) ≤ 30 := by omega
      go_enter Try.func18, Try.ntmps18
      go_wp2_with fail
      go_ret
      exact ⟨rfl, HB.out⟩
    · rw [decide_eq_false h2]
      have hi2 : ¬ (x.P.length : Int) ≤ 30 := by omega
      go_enter Try.func18, Try.ntmps18
      go_wp2_with fail
      go_ret
      exact ⟨rfl, HB.out⟩
  · rw [decide_eq_false h]
    have hi : ¬ (x.T.length : Int) ≤ 30 := by omega
    go_enter Try.func18, Try.ntmps18
    go_wp2_with fail
    go_ret
    exact ⟨rfl, HB.out⟩
def genG (x : OM) (gn : Int) : Int := if -100 ≤ x.gen ∧ x.gen ≤ 100 then x.gen + gn else x.gen
/-- What a step makes of the program's group. -/
def stepG (x : OM) (gn : Int) (G : GD) : GD :=
  if x.do_ = 0 then joinD x.m x.T x.now G else if x.do_ = 1 then syncD x.m (genG x gn) x.P x.rnd x.now G else if x.do_ = 2 then beatD x.m (genG x gn) x.now G else if x.do_ = 3 then leaveD x.m x.now G else if x.do_ = 4 then tickD x.now G else G
theorem Up.step (x : OM) (gn : Int) (G : GD) : Up 2 G (stepG x gn G) := by
  unfold stepG
  split
  · exact Up.join _ _ _ _
  · split
    · exact Up.sync _ _ _ _ _ _
    · split
      · exact Up.beat _ _ _ _
      · split
        · exact Up.leave _ _ _
        · split
          · exact Up.tick _ _
          · exact (Up.refl G).mono (by decide)
theorem syncP_len {m gen now : Int} {T : List TX} {round : Bool} {G : GD} (h : ∀ x ∈ (syncD m gen T round now G).L, TOk x.T ∧ POk x.P) : (syncP m gen T round now G).length ≤ 100000 := by
  unfold syncP
  split
  · cases posM m G.L with
    | none => exact Nat.zero_le _
    | some k =>
      show (partAt k _).length ≤ _
      unfold partAt
      cases hL : (syncD m gen T round now G).L[k]? with
      | none => exact Nat.zero_le _
      | some x => exact (h x (List.mem_of_getElem? hL)).2.1
  · exact Nat.zero_le _
/-- What a step gives. -/
def StG (W w0 : World) (S : Nat → Prop) (p q : Nat) (k : Int) (G' : GD) (e : Ending) (w' : World) : Prop := (∃ b, e = .returned (.bool b)) ∧ ∃ K', Px W w0 S p q k G' K' w'
/-- Both groups, and a call's own copy of what it is to do. -/
structure PB (W w0 : World) (S : Nat → Prop) (p q : Nat) (k : Int) (G K : GD) (b : Nat) (x : OM) (w : World) : Prop where
  px : Px W w0 S p q k G K w
  bx : Box w b 25 (omL x).toArray
theorem PB.cells {W w0 w : World} {S : Nat → Prop} {p q b : Nat} {k : Int} {G K : GD} {x : OM} (h : PB W w0 S p q k G K b x w) : w.cell? ⟨b, 1, none⟩ = some (.int .i64 x.m) ∧ w.cell? ⟨b, 6, none⟩ = some (.int .i64 x.now) :=
  ⟨(h.bx.cell 1).trans rfl, (h.bx.cell 6).trans rfl⟩
set_option maxHeartbeats 8000000 in
set_option maxRecDepth 100000 in
theorem step0_c {W w0 w : World} {S : Nat → Prop} {p q : Nat} {k : Int} {G K : GD} (h : Px W w0 S p q k G K w) (hk : k ≤ 900000) (x : OM) (hx : OMk W x) (hd : x.do_ = 0) :
    Calls Try.prog 19 #[.pointer (some ⟨p, 0, none⟩), .pointer (some ⟨q, 0, none⟩), .agg (omL x).toArray] w (StG W w0 S p q (k + 4) (stepG x K.gn G)) := by
  have hA : Below w.heap.size w (w.alloc (.cells (omL x).toArray 25)) := (Below.refl _ _).alloc (Nat.le_refl _) _
  obtain ⟨S', hS', hi, hout⟩ := h.inner hA
  have hbx := Box.new w 25 (omL x).toArray
  have HN : Hid (¬ S' w.heap.size) := Lib.hid (fun e => by have := (hS' _ e).1; omega)
  obtain ⟨g3, gl⟩ := hi.kgen
  obtain ⟨⟨g0, g1⟩, ⟨k0, k1⟩, _⟩ := hi.gn
  obtain ⟨x0, x1, x2, x3, x4, x5, x6, xl⟩ := om7 hbx
  have HX := Lib.hid hbx
  have HI := Lib.hid hi
  have hK2 : K.gn ≤ 900000 := by omega
  generalize hgen : genG x K.gn = gg
  unfold genG at hgen
  have hG : stepG x K.gn G = joinD x.m x.T x.now G := by unfold stepG; rw [if_pos hd]
  rw [hG]
  have HOut := Lib.hid hout
  clear hA hS' hi hbx hG h hout
  rw [hd] at x0
  by_cases hg1 : -100 ≤ x.gen
  · by_cases hg2 : x.gen ≤ 100
    · rw [if_pos ⟨hg1, hg2⟩] at hgen
      subst hgen
      have c1 := fun w' (hw : Px W (w.alloc (.cells (omL x).toArray 25)) S' p q k G K w') => join_p hw (by omega) hx x.m x.now x.tc
      go_enter Try.func19, Try.ntmps19
      go_wp2_with fail
      with_reducible refine (c1 _ ?_).mono ?_
      · exact HI.out.later (by first | exact Below.refl _ _ | exact below_drewN (Below.refl _ _) _)
      rintro en w2 ⟨a1, e1, rfl, H2⟩
      clear c1 x0 x1 x2 x3 x4 x5 x6 xl g3 gl
      obtain ⟨x0, x1, x2, x3, x4, x5, x6, xl⟩ := om7 (HX.out.off H2.off HN.out)
      have c2 := join_k H2 (by omega) hx x.m x.now x.tc
      have H2' := Lib.hid H2
      clear H2
      go_wp2_with fail
      with_reducible refine c2.mono ?_
      rintro en w3 ⟨a2, e2, rfl, H3⟩
      clear c2 x0 x1 x2 x3 x4 x5 x6 xl
      have H3' := Lib.hid H3
      clear H3
      by_cases hab : a1 = a2
      · subst hab
        go_wp2_with fail
        go_ret
        exact ⟨⟨_, rfl⟩, _, HOut.out _ _ _ _ (H3'.out.bump (by omega))⟩
      · have hab' : (a1 == a2) = false := beq_eq_false_iff_ne.2 hab
        go_wp2_with fail
        go_ret
        exact ⟨⟨_, rfl⟩, _, HOut.out _ _ _ _ (H3'.out.bump (by omega))⟩
    · rw [if_neg (fun e => hg2 e.2)] at hgen
      subst hgen
      have c1 := fun w' (hw : Px W (w.alloc (.cells (omL x).toArray 25)) S' p q k G K w') => join_p hw (by omega) hx x.m x.now x.tc
      go_enter Try.func19, Try.ntmps19
      go_wp2_with fail
      with_reducible refine (c1 _ ?_).mono ?_
      · exact HI.out.later (by first | exact Below.refl _ _ | exact below_drewN (Below.refl _ _) _)
      rintro en w2 ⟨a1, e1, rfl, H2⟩
      clear c1 x0 x1 x2 x3 x4 x5 x6 xl g3 gl
      obtain ⟨x0, x1, x2, x3, x4, x5, x6, xl⟩ := om7 (HX.out.off H2.off HN.out)
      have c2 := join_k H2 (by omega) hx x.m x.now x.tc
      have H2' := Lib.hid H2
      clear H2
      go_wp2_with fail
      with_reducible refine c2.mono ?_
      rintro en w3 ⟨a2, e2, rfl, H3⟩
      clear c2 x0 x1 x2 x3 x4 x5 x6 xl
      have H3' := Lib.hid H3
      clear H3
      by_cases hab : a1 = a2
      · subst hab
        go_wp2_with fail
        go_ret
        exact ⟨⟨_, rfl⟩, _, HOut.out _ _ _ _ (H3'.out.bump (by omega))⟩
      · have hab' : (a1 == a2) = false := beq_eq_false_iff_ne.2 hab
        go_wp2_with fail
        go_ret
        exact ⟨⟨_, rfl⟩, _, HOut.out _ _ _ _ (H3'.out.bump (by omega))⟩
  · rw [if_neg (fun e => hg1 e.1)] at hgen
    subst hgen
    have c1 := fun w' (hw : Px W (w.alloc (.cells (omL x).toArray 25)) S' p q k G K w') => join_p hw (by omega) hx x.m x.now x.tc
    go_enter Try.func19, Try.ntmps19
    go_wp2_with fail
    with_reducible refine (c1 _ ?_).mono ?_
    · exact HI.out.later (by first | exact Below.refl _ _ | exact below_drewN (Below.refl _ _) _)
    rintro en w2 ⟨a1, e1, rfl, H2⟩
    clear c1 x0 x1 x2 x3 x4 x5 x6 xl g3 gl
    obtain ⟨x0, x1, x2, x3, x4, x5, x6, xl⟩ := om7 (HX.out.off H2.off HN.out)
    have c2 := join_k H2 (by omega) hx x.m x.now x.tc
    have H2' := Lib.hid H2
    clear H2
    go_wp2_with fail
    with_reducible refine c2.mono ?_
    rintro en w3 ⟨a2, e2, rfl, H3⟩
    clear c2 x0 x1 x2 x3 x4 x5 x6 xl
    have H3' := Lib.hid H3
    clear H3
    by_cases hab : a1 = a2
    · subst hab
      go_wp2_with fail
      go_ret
      exact ⟨⟨_, rfl⟩, _, HOut.out _ _ _ _ (H3'.out.bump (by omega))⟩
    · have hab' : (a1 == a2) = false := beq_eq_false_iff_ne.2 hab
      go_wp2_with fail
      go_ret
      exact ⟨⟨_, rfl⟩, _, HOut.out _ _ _ _ (H3'.out.bump (by omega))⟩
set_option maxHeartbeats 8000000 in
set_option maxRecDepth 100000 in
theorem step1_c {W w0 w : World} {S : Nat → Prop} {p q : Nat} {k : Int} {G K : GD} (h : Px W w0 S p q k G K w) (hk : k ≤ 900000) (x : OM) (hx : OMk W x) (hd : x.do_ = 1) :
    Calls Try.prog 19 #[.pointer (some ⟨p, 0, none⟩), .pointer (some ⟨q, 0, none⟩), .agg (omL x).toArray] w (StG W w0 S p q (k + 4) (stepG x K.gn G)) := by
  have hA : Below w.heap.size w (w.alloc (.cells (omL x).toArray 25)) := (Below.refl _ _).alloc (Nat.le_refl _) _
  obtain ⟨S', hS', hi, hout⟩ := h.inner hA
  have hbx := Box.new w 25 (omL x).toArray
  have HN : Hid (¬ S' w.heap.size) := Lib.hid (fun e => by have := (hS' _ e).1; omega)
  obtain ⟨g3, gl⟩ := hi.kgen
  obtain ⟨⟨g0, g1⟩, ⟨k0, k1⟩, _⟩ := hi.gn
  obtain ⟨x0, x1, x2, x3, x4, x5, x6, xl⟩ := om7 hbx
  have HX := Lib.hid hbx
  have HI := Lib.hid hi
  have hK2 : K.gn ≤ 900000 := by omega
  generalize hgen : genG x K.gn = gg
  unfold genG at hgen
  have hG : stepG x K.gn G = syncD x.m gg x.P x.rnd x.now G := by unfold stepG; rw [if_neg (by omega), if_pos hd]; unfold genG; rw [hgen]
  rw [hG]
  have HOut := Lib.hid hout
  clear hA hS' hi hbx hG h hout
  rw [hd] at x0
  by_cases hg1 : -100 ≤ x.gen
  · by_cases hg2 : x.gen ≤ 100
    · rw [if_pos ⟨hg1, hg2⟩] at hgen
      subst hgen
      have c1 := fun w' (hw : Px W (w.alloc (.cells (omL x).toArray 25)) S' p q k G K w') => sync_p hw hx x.m (x.gen + K.gn) x.now x.pc x.rnd
      go_enter Try.func19, Try.ntmps19
      go_wp2_with fail
      with_reducible refine (c1 _ ?_).mono ?_
      · exact HI.out.later (by first | exact Below.refl _ _ | exact below_drewN (Below.refl _ _) _)
      rintro en w2 ⟨A2, c2', rfl, hr2, H2⟩
      clear c1 x0 x1 x2 x3 x4 x5 x6 xl g3 gl
      obtain ⟨x0, x1, x2, x3, x4, x5, x6, xl⟩ := om7 (HX.out.off H2.off HN.out)
      have c2 := sync_k H2 hx x.m (x.gen + K.gn) x.now x.pc x.rnd
      have H2' := Lib.hid H2
      clear H2
      go_wp2_with fail
      with_reducible refine c2.mono ?_
      rintro en w3 ⟨A3, c3, Q, rfl, hr3, H3, hkeep⟩
      clear c2 x0 x1 x2 x3 x4 x5 x6 xl
      have hP := prt_in (hkeep _ _ _ _ _ hr2)
      have hQ := prt_in hr3
      have hl := syncP_len H3.gn.2.2.2
      have H3' := Lib.hid H3
      clear H3 hkeep hr2 hr3
      generalize syncP x.m (x.gen + K.gn) x.P x.rnd x.now G = P1 at *
      generalize syncE x.m (x.gen + K.gn) x.P x.now G = e1
      generalize syncE x.m (x.gen + K.gn) x.P x.now K = e2
      have c4 := samePs_c P1 Q A2 c2' A3 c3 w3 hP hQ hl
      clear hP hQ
      by_cases hab : e1 = e2
      · subst hab
        go_wp2_with fail
        with_reducible refine c4.mono ?_
        rintro en w4 ⟨b, rfl, n4, rfl⟩
        go_wp2_with fail
        go_ret
        exact ⟨⟨_, rfl⟩, _, HOut.out _ _ _ _ ((H3'.out.later (below_drewN (Below.refl _ _) _)).bump (by omega))⟩
      · have hab' : (e1 == e2) = false := beq_eq_false_iff_ne.2 hab
        go_wp2_with fail
        go_ret
        exact ⟨⟨_, rfl⟩, _, HOut.out _ _ _ _ (H3'.out.bump (by omega))⟩
    · rw [if_neg (fun e => hg2 e.2)] at hgen
      subst hgen
      have c1 := fun w' (hw : Px W (w.alloc (.cells (omL x).toArray 25)) S' p q k G K w') => sync_p hw hx x.m x.gen x.now x.pc x.rnd
      go_enter Try.func19, Try.ntmps19
      go_wp2_with fail
      with_reducible refine (c1 _ ?_).mono ?_
      · exact HI.out.later (by first | exact Below.refl _ _ | exact below_drewN (Below.refl _ _) _)
      rintro en w2 ⟨A2, c2', rfl, hr2, H2⟩
      clear c1 x0 x1 x2 x3 x4 x5 x6 xl g3 gl
      obtain ⟨x0, x1, x2, x3, x4, x5, x6, xl⟩ := om7 (HX.out.off H2.off HN.out)
      have c2 := sync_k H2 hx x.m x.gen x.now x.pc x.rnd
      have H2' := Lib.hid H2
      clear H2
      go_wp2_with fail
      with_reducible refine c2.mono ?_
      rintro en w3 ⟨A3, c3, Q, rfl, hr3, H3, hkeep⟩
      clear c2 x0 x1 x2 x3 x4 x5 x6 xl
      have hP := prt_in (hkeep _ _ _ _ _ hr2)
      have hQ := prt_in hr3
      have hl := syncP_len H3.gn.2.2.2
      have H3' := Lib.hid H3
      clear H3 hkeep hr2 hr3
      generalize syncP x.m x.gen x.P x.rnd x.now G = P1 at *
      generalize syncE x.m x.gen x.P x.now G = e1
      generalize syncE x.m x.gen x.P x.now K = e2
      have c4 := samePs_c P1 Q A2 c2' A3 c3 w3 hP hQ hl
      clear hP hQ
      by_cases hab : e1 = e2
      · subst hab
        go_wp2_with fail
        with_reducible refine c4.mono ?_
        rintro en w4 ⟨b, rfl, n4, rfl⟩
        go_wp2_with fail
        go_ret
        exact ⟨⟨_, rfl⟩, _, HOut.out _ _ _ _ ((H3'.out.later (below_drewN (Below.refl _ _) _)).bump (by omega))⟩
      · have hab' : (e1 == e2) = false := beq_eq_false_iff_ne.2 hab
        go_wp2_with fail
        go_ret
        exact ⟨⟨_, rfl⟩, _, HOut.out _ _ _ _ (H3'.out.bump (by omega))⟩
  · rw [if_neg (fun e => hg1 e.1)] at hgen
    subst hgen
    have c1 := fun w' (hw : Px W (w.alloc (.cells (omL x).toArray 25)) S' p q k G K w') => sync_p hw hx x.m x.gen x.now x.pc x.rnd
    go_enter Try.func19, Try.ntmps19
    go_wp2_with fail
    with_reducible refine (c1 _ ?_).mono ?_
    · exact HI.out.later (by first | exact Below.refl _ _ | exact below_drewN (Below.refl _ _) _)
    rintro en w2 ⟨A2, c2', rfl, hr2, H2⟩
    clear c1 x0 x1 x2 x3 x4 x5 x6 xl g3 gl
    obtain ⟨x0, x1, x2, x3, x4, x5, x6, xl⟩ := om7 (HX.out.off H2.off HN.out)
    have c2 := sync_k H2 hx x.m x.gen x.now x.pc x.rnd
    have H2' := Lib.hid H2
    clear H2
    go_wp2_with fail
    with_reducible refine c2.mono ?_
    rintro en w3 ⟨A3, c3, Q, rfl, hr3, H3, hkeep⟩
    clear c2 x0 x1 x2 x3 x4 x5 x6 xl
    have hP := prt_in (hkeep _ _ _ _ _ hr2)
    have hQ := prt_in hr3
    have hl := syncP_len H3.gn.2.2.2
    have H3' := Lib.hid H3
    clear H3 hkeep hr2 hr3
    generalize syncP x.m x.gen x.P x.rnd x.now G = P1 at *
    generalize syncE x.m x.gen x.P x.now G = e1
    generalize syncE x.m x.gen x.P x.now K = e2
    have c4 := samePs_c P1 Q A2 c2' A3 c3 w3 hP hQ hl
    clear hP hQ
    by_cases hab : e1 = e2
    · subst hab
      go_wp2_with fail
      with_reducible refine c4.mono ?_
      rintro en w4 ⟨b, rfl, n4, rfl⟩
      go_wp2_with fail
      go_ret
      exact ⟨⟨_, rfl⟩, _, HOut.out _ _ _ _ ((H3'.out.later (below_drewN (Below.refl _ _) _)).bump (by omega))⟩
    · have hab' : (e1 == e2) = false := beq_eq_false_iff_ne.2 hab
      go_wp2_with fail
      go_ret
      exact ⟨⟨_, rfl⟩, _, HOut.out _ _ _ _ (H3'.out.bump (by omega))⟩
set_option maxHeartbeats 8000000 in
set_option maxRecDepth 100000 in
theorem step2_c {W w0 w : World} {S : Nat → Prop} {p q : Nat} {k : Int} {G K : GD} (h : Px W w0 S p q k G K w) (hk : k ≤ 900000) (x : OM) (hx : OMk W x) (hd : x.do_ = 2) :
    Calls Try.prog 19 #[.pointer (some ⟨p, 0, none⟩), .pointer (some ⟨q, 0, none⟩), .agg (omL x).toArray] w (StG W w0 S p q (k + 4) (stepG x K.gn G)) := by
  have hA : Below w.heap.size w (w.alloc (.cells (omL x).toArray 25)) := (Below.refl _ _).alloc (Nat.le_refl _) _
  obtain ⟨S', hS', hi, hout⟩ := h.inner hA
  have hbx := Box.new w 25 (omL x).toArray
  have HN : Hid (¬ S' w.heap.size) := Lib.hid (fun e => by have := (hS' _ e).1; omega)
  obtain ⟨g3, gl⟩ := hi.kgen
  obtain ⟨⟨g0, g1⟩, ⟨k0, k1⟩, _⟩ := hi.gn
  obtain ⟨x0, x1, x2, x3, x4, x5, x6, xl⟩ := om7 hbx
  have HX := Lib.hid hbx
  have HI := Lib.hid hi
  have hK2 : K.gn ≤ 900000 := by omega
  generalize hgen : genG x K.gn = gg
  unfold genG at hgen
  have hG : stepG x K.gn G = beatD x.m gg x.now G := by unfold stepG; rw [if_neg (by omega), if_neg (by omega), if_pos hd]; unfold genG; rw [hgen]
  rw [hG]
  have HOut := Lib.hid hout
  clear hA hS' hi hbx hG h hout
  rw [hd] at x0
  by_cases hg1 : -100 ≤ x.gen
  · by_cases hg2 : x.gen ≤ 100
    · rw [if_pos ⟨hg1, hg2⟩] at hgen
      subst hgen
      have c1 : Calls Try.prog 14 #[.pointer (some ⟨p, 0, none⟩), .int .i64 x.m, .int .i64 (x.gen + K.gn), .int .i64 x.now] (w.alloc (.cells (omL x).toArray 25)).drew (fun en w' => en = .returned (.int .i64 (beatE x.m (x.gen + K.gn) x.now G)) ∧ PB W (w.alloc (.cells (omL x).toArray 25)) S' p q k (beatD x.m (x.gen + K.gn) x.now G) K w.heap.size x w') := (beat_p (HI.out.later ((Below.refl _ _).drew)) x.m (x.gen + K.gn) x.now).mono (by
        rintro en w2 ⟨rfl, H2⟩
        exact ⟨rfl, H2, HX.out.off H2.off HN.out⟩)
      have c2 : ∀ w', PB W (w.alloc (.cells (omL x).toArray 25)) S' p q k (beatD x.m (x.gen + K.gn) x.now G) K w.heap.size x w' → Calls Try.prog 40 #[.pointer (some ⟨q, 0, none⟩), .int .i64 x.m, .int .i64 (x.gen + K.gn), .int .i64 x.now] w' (fun en w'' => en = .returned (.int .i64 (kbeatE x.m (x.gen + K.gn) x.now K)) ∧ PB W (w.alloc (.cells (omL x).toArray 25)) S' p q k (beatD x.m (x.gen + K.gn) x.now G) (beatD x.m (x.gen + K.gn) x.now K) w.heap.size x w'') := fun w' hw => (beat_k hw.px x.m (x.gen + K.gn) x.now).mono (by
        rintro en w3 ⟨rfl, H3⟩
        exact ⟨rfl, H3, HX.out.off H3.off HN.out⟩)
      have C2 := Lib.hid c2
      clear c2
      go_enter Try.func19, Try.ntmps19
      go_wp2_with fail
      go_region_held3 (fun wq => wq.cell? ⟨w.heap.size, 1, none⟩ = some (.int .i64 x.m) ∧ wq.cell? ⟨w.heap.size, 6, none⟩ = some (.int .i64 x.now))
        (first | exact ⟨x1, x6⟩ | exact PB.cells (by assumption))
        (first | ((with_reducible refine c1.mono ?_); rintro e w3 ⟨rfl, ht1⟩) | ((with_reducible refine (C2.out _ (by assumption)).mono ?_); rintro e w4 ⟨rfl, ht2⟩))
      all_goals
        have H9 : PB W (w.alloc (.cells (omL x).toArray 25)) S' p q k (beatD x.m (x.gen + K.gn) x.now G) (beatD x.m (x.gen + K.gn) x.now K) w.heap.size x w4 := by assumption
        have HP := Lib.hid H9.px
        clear H9 ht2 ht1 c1 C2
        go_wp2_with fail
        go_ret
        exact ⟨⟨_, rfl⟩, _, HOut.out _ _ _ _ (HP.out.bump (by omega))⟩
    · rw [if_neg (fun e => hg2 e.2)] at hgen
      subst hgen
      have c1 : Calls Try.prog 14 #[.pointer (some ⟨p, 0, none⟩), .int .i64 x.m, .int .i64 x.gen, .int .i64 x.now] (w.alloc (.cells (omL x).toArray 25)).drew (fun en w' => en = .returned (.int .i64 (beatE x.m x.gen x.now G)) ∧ PB W (w.alloc (.cells (omL x).toArray 25)) S' p q k (beatD x.m x.gen x.now G) K w.heap.size x w') := (beat_p (HI.out.later ((Below.refl _ _).drew)) x.m x.gen x.now).mono (by
        rintro en w2 ⟨rfl, H2⟩
        exact ⟨rfl, H2, HX.out.off H2.off HN.out⟩)
      have c2 : ∀ w', PB W (w.alloc (.cells (omL x).toArray 25)) S' p q k (beatD x.m x.gen x.now G) K w.heap.size x w' → Calls Try.prog 40 #[.pointer (some ⟨q, 0, none⟩), .int .i64 x.m, .int .i64 x.gen, .int .i64 x.now] w' (fun en w'' => en = .returned (.int .i64 (kbeatE x.m x.gen x.now K)) ∧ PB W (w.alloc (.cells (omL x).toArray 25)) S' p q k (beatD x.m x.gen x.now G) (beatD x.m x.gen x.now K) w.heap.size x w'') := fun w' hw => (beat_k hw.px x.m x.gen x.now).mono (by
        rintro en w3 ⟨rfl, H3⟩
        exact ⟨rfl, H3, HX.out.off H3.off HN.out⟩)
      have C2 := Lib.hid c2
      clear c2
      go_enter Try.func19, Try.ntmps19
      go_wp2_with fail
      go_region_held3 (fun wq => wq.cell? ⟨w.heap.size, 1, none⟩ = some (.int .i64 x.m) ∧ wq.cell? ⟨w.heap.size, 6, none⟩ = some (.int .i64 x.now))
        (first | exact ⟨x1, x6⟩ | exact PB.cells (by assumption))
        (first | ((with_reducible refine c1.mono ?_); rintro e w3 ⟨rfl, ht1⟩) | ((with_reducible refine (C2.out _ (by assumption)).mono ?_); rintro e w4 ⟨rfl, ht2⟩))
      all_goals
        have H9 : PB W (w.alloc (.cells (omL x).toArray 25)) S' p q k (beatD x.m x.gen x.now G) (beatD x.m x.gen x.now K) w.heap.size x w4 := by assumption
        have HP := Lib.hid H9.px
        clear H9 ht2 ht1 c1 C2
        go_wp2_with fail
        go_ret
        exact ⟨⟨_, rfl⟩, _, HOut.out _ _ _ _ (HP.out.bump (by omega))⟩
  · rw [if_neg (fun e => hg1 e.1)] at hgen
    subst hgen
    have c1 : Calls Try.prog 14 #[.pointer (some ⟨p, 0, none⟩), .int .i64 x.m, .int .i64 x.gen, .int .i64 x.now] (w.alloc (.cells (omL x).toArray 25)).drew (fun en w' => en = .returned (.int .i64 (beatE x.m x.gen x.now G)) ∧ PB W (w.alloc (.cells (omL x).toArray 25)) S' p q k (beatD x.m x.gen x.now G) K w.heap.size x w') := (beat_p (HI.out.later ((Below.refl _ _).drew)) x.m x.gen x.now).mono (by
      rintro en w2 ⟨rfl, H2⟩
      exact ⟨rfl, H2, HX.out.off H2.off HN.out⟩)
    have c2 : ∀ w', PB W (w.alloc (.cells (omL x).toArray 25)) S' p q k (beatD x.m x.gen x.now G) K w.heap.size x w' → Calls Try.prog 40 #[.pointer (some ⟨q, 0, none⟩), .int .i64 x.m, .int .i64 x.gen, .int .i64 x.now] w' (fun en w'' => en = .returned (.int .i64 (kbeatE x.m x.gen x.now K)) ∧ PB W (w.alloc (.cells (omL x).toArray 25)) S' p q k (beatD x.m x.gen x.now G) (beatD x.m x.gen x.now K) w.heap.size x w'') := fun w' hw => (beat_k hw.px x.m x.gen x.now).mono (by
      rintro en w3 ⟨rfl, H3⟩
      exact ⟨rfl, H3, HX.out.off H3.off HN.out⟩)
    have C2 := Lib.hid c2
    clear c2
    go_enter Try.func19, Try.ntmps19
    go_wp2_with fail
    go_region_held3 (fun wq => wq.cell? ⟨w.heap.size, 1, none⟩ = some (.int .i64 x.m) ∧ wq.cell? ⟨w.heap.size, 6, none⟩ = some (.int .i64 x.now))
      (first | exact ⟨x1, x6⟩ | exact PB.cells (by assumption))
      (first | ((with_reducible refine c1.mono ?_); rintro e w3 ⟨rfl, ht1⟩) | ((with_reducible refine (C2.out _ (by assumption)).mono ?_); rintro e w4 ⟨rfl, ht2⟩))
    all_goals
      have H9 : PB W (w.alloc (.cells (omL x).toArray 25)) S' p q k (beatD x.m x.gen x.now G) (beatD x.m x.gen x.now K) w.heap.size x w4 := by assumption
      have HP := Lib.hid H9.px
      clear H9 ht2 ht1 c1 C2
      go_wp2_with fail
      go_ret
      exact ⟨⟨_, rfl⟩, _, HOut.out _ _ _ _ (HP.out.bump (by omega))⟩
set_option maxHeartbeats 8000000 in
set_option maxRecDepth 100000 in
theorem step3_c {W w0 w : World} {S : Nat → Prop} {p q : Nat} {k : Int} {G K : GD} (h : Px W w0 S p q k G K w) (hk : k ≤ 900000) (x : OM) (hx : OMk W x) (hd : x.do_ = 3) :
    Calls Try.prog 19 #[.pointer (some ⟨p, 0, none⟩), .pointer (some ⟨q, 0, none⟩), .agg (omL x).toArray] w (StG W w0 S p q (k + 4) (stepG x K.gn G)) := by
  have hA : Below w.heap.size w (w.alloc (.cells (omL x).toArray 25)) := (Below.refl _ _).alloc (Nat.le_refl _) _
  obtain ⟨S', hS', hi, hout⟩ := h.inner hA
  have hbx := Box.new w 25 (omL x).toArray
  have HN : Hid (¬ S' w.heap.size) := Lib.hid (fun e => by have := (hS' _ e).1; omega)
  obtain ⟨g3, gl⟩ := hi.kgen
  obtain ⟨⟨g0, g1⟩, ⟨k0, k1⟩, _⟩ := hi.gn
  obtain ⟨x0, x1, x2, x3, x4, x5, x6, xl⟩ := om7 hbx
  have HX := Lib.hid hbx
  have HI := Lib.hid hi
  have hK2 : K.gn ≤ 900000 := by omega
  generalize hgen : genG x K.gn = gg
  unfold genG at hgen
  have hG : stepG x K.gn G = leaveD x.m x.now G := by unfold stepG; rw [if_neg (by omega), if_neg (by omega), if_neg (by omega), if_pos hd]
  rw [hG]
  have HOut := Lib.hid hout
  clear hA hS' hi hbx hG h hout
  rw [hd] at x0
  by_cases hg1 : -100 ≤ x.gen
  · by_cases hg2 : x.gen ≤ 100
    · rw [if_pos ⟨hg1, hg2⟩] at hgen
      subst hgen
      have c1 : Calls Try.prog 15 #[.pointer (some ⟨p, 0, none⟩), .int .i64 x.m, .int .i64 x.now] (w.alloc (.cells (omL x).toArray 25)).drew (fun en w' => en = .returned (.int .i64 (leaveE x.m x.now G)) ∧ PB W (w.alloc (.cells (omL x).toArray 25)) S' p q (k + 1) (leaveD x.m x.now G) K w.heap.size x w') := (leave_p (HI.out.later ((Below.refl _ _).drew)) (by omega) x.m x.now).mono (by
        rintro en w2 ⟨rfl, H2⟩
        exact ⟨rfl, H2, HX.out.off H2.off HN.out⟩)
      have c2 : ∀ w', PB W (w.alloc (.cells (omL x).toArray 25)) S' p q (k + 1) (leaveD x.m x.now G) K w.heap.size x w' → Calls Try.prog 41 #[.pointer (some ⟨q, 0, none⟩), .int .i64 x.m, .int .i64 x.now] w' (fun en w'' => en = .returned (.int .i64 (kleaveE x.m x.now K)) ∧ PB W (w.alloc (.cells (omL x).toArray 25)) S' p q (k + 1 + 1) (leaveD x.m x.now G) (kleaveD x.m x.now K) w.heap.size x w'') := fun w' hw => (leave_k hw.px (by omega) x.m x.now).mono (by
        rintro en w3 ⟨rfl, H3⟩
        exact ⟨rfl, H3, HX.out.off H3.off HN.out⟩)
      have C2 := Lib.hid c2
      clear c2
      go_enter Try.func19, Try.ntmps19
      go_wp2_with fail
      go_region_held3 (fun wq => wq.cell? ⟨w.heap.size, 1, none⟩ = some (.int .i64 x.m) ∧ wq.cell? ⟨w.heap.size, 6, none⟩ = some (.int .i64 x.now))
        (first | exact ⟨x1, x6⟩ | exact PB.cells (by assumption))
        (first | ((with_reducible refine c1.mono ?_); rintro e w3 ⟨rfl, ht1⟩) | ((with_reducible refine (C2.out _ (by assumption)).mono ?_); rintro e w4 ⟨rfl, ht2⟩))
      all_goals
        have H9 : PB W (w.alloc (.cells (omL x).toArray 25)) S' p q (k + 1 + 1) (leaveD x.m x.now G) (kleaveD x.m x.now K) w.heap.size x w4 := by assumption
        have HP := Lib.hid H9.px
        clear H9 ht2 ht1 c1 C2
        go_wp2_with fail
        go_ret
        exact ⟨⟨_, rfl⟩, _, HOut.out _ _ _ _ (HP.out.bump (by omega))⟩
    · rw [if_neg (fun e => hg2 e.2)] at hgen
      subst hgen
      have c1 : Calls Try.prog 15 #[.pointer (some ⟨p, 0, none⟩), .int .i64 x.m, .int .i64 x.now] (w.alloc (.cells (omL x).toArray 25)).drew (fun en w' => en = .returned (.int .i64 (leaveE x.m x.now G)) ∧ PB W (w.alloc (.cells (omL x).toArray 25)) S' p q (k + 1) (leaveD x.m x.now G) K w.heap.size x w') := (leave_p (HI.out.later ((Below.refl _ _).drew)) (by omega) x.m x.now).mono (by
        rintro en w2 ⟨rfl, H2⟩
        exact ⟨rfl, H2, HX.out.off H2.off HN.out⟩)
      have c2 : ∀ w', PB W (w.alloc (.cells (omL x).toArray 25)) S' p q (k + 1) (leaveD x.m x.now G) K w.heap.size x w' → Calls Try.prog 41 #[.pointer (some ⟨q, 0, none⟩), .int .i64 x.m, .int .i64 x.now] w' (fun en w'' => en = .returned (.int .i64 (kleaveE x.m x.now K)) ∧ PB W (w.alloc (.cells (omL x).toArray 25)) S' p q (k + 1 + 1) (leaveD x.m x.now G) (kleaveD x.m x.now K) w.heap.size x w'') := fun w' hw => (leave_k hw.px (by omega) x.m x.now).mono (by
        rintro en w3 ⟨rfl, H3⟩
        exact ⟨rfl, H3, HX.out.off H3.off HN.out⟩)
      have C2 := Lib.hid c2
      clear c2
      go_enter Try.func19, Try.ntmps19
      go_wp2_with fail
      go_region_held3 (fun wq => wq.cell? ⟨w.heap.size, 1, none⟩ = some (.int .i64 x.m) ∧ wq.cell? ⟨w.heap.size, 6, none⟩ = some (.int .i64 x.now))
        (first | exact ⟨x1, x6⟩ | exact PB.cells (by assumption))
        (first | ((with_reducible refine c1.mono ?_); rintro e w3 ⟨rfl, ht1⟩) | ((with_reducible refine (C2.out _ (by assumption)).mono ?_); rintro e w4 ⟨rfl, ht2⟩))
      all_goals
        have H9 : PB W (w.alloc (.cells (omL x).toArray 25)) S' p q (k + 1 + 1) (leaveD x.m x.now G) (kleaveD x.m x.now K) w.heap.size x w4 := by assumption
        have HP := Lib.hid H9.px
        clear H9 ht2 ht1 c1 C2
        go_wp2_with fail
        go_ret
        exact ⟨⟨_, rfl⟩, _, HOut.out _ _ _ _ (HP.out.bump (by omega))⟩
  · rw [if_neg (fun e => hg1 e.1)] at hgen
    subst hgen
    have c1 : Calls Try.prog 15 #[.pointer (some ⟨p, 0, none⟩), .int .i64 x.m, .int .i64 x.now] (w.alloc (.cells (omL x).toArray 25)).drew (fun en w' => en = .returned (.int .i64 (leaveE x.m x.now G)) ∧ PB W (w.alloc (.cells (omL x).toArray 25)) S' p q (k + 1) (leaveD x.m x.now G) K w.heap.size x w') := (leave_p (HI.out.later ((Below.refl _ _).drew)) (by omega) x.m x.now).mono (by
      rintro en w2 ⟨rfl, H2⟩
      exact ⟨rfl, H2, HX.out.off H2.off HN.out⟩)
    have c2 : ∀ w', PB W (w.alloc (.cells (omL x).toArray 25)) S' p q (k + 1) (leaveD x.m x.now G) K w.heap.size x w' → Calls Try.prog 41 #[.pointer (some ⟨q, 0, none⟩), .int .i64 x.m, .int .i64 x.now] w' (fun en w'' => en = .returned (.int .i64 (kleaveE x.m x.now K)) ∧ PB W (w.alloc (.cells (omL x).toArray 25)) S' p q (k + 1 + 1) (leaveD x.m x.now G) (kleaveD x.m x.now K) w.heap.size x w'') := fun w' hw => (leave_k hw.px (by omega) x.m x.now).mono (by
      rintro en w3 ⟨rfl, H3⟩
      exact ⟨rfl, H3, HX.out.off H3.off HN.out⟩)
    have C2 := Lib.hid c2
    clear c2
    go_enter Try.func19, Try.ntmps19
    go_wp2_with fail
    go_region_held3 (fun wq => wq.cell? ⟨w.heap.size, 1, none⟩ = some (.int .i64 x.m) ∧ wq.cell? ⟨w.heap.size, 6, none⟩ = some (.int .i64 x.now))
      (first | exact ⟨x1, x6⟩ | exact PB.cells (by assumption))
      (first | ((with_reducible refine c1.mono ?_); rintro e w3 ⟨rfl, ht1⟩) | ((with_reducible refine (C2.out _ (by assumption)).mono ?_); rintro e w4 ⟨rfl, ht2⟩))
    all_goals
      have H9 : PB W (w.alloc (.cells (omL x).toArray 25)) S' p q (k + 1 + 1) (leaveD x.m x.now G) (kleaveD x.m x.now K) w.heap.size x w4 := by assumption
      have HP := Lib.hid H9.px
      clear H9 ht2 ht1 c1 C2
      go_wp2_with fail
      go_ret
      exact ⟨⟨_, rfl⟩, _, HOut.out _ _ _ _ (HP.out.bump (by omega))⟩
set_option maxHeartbeats 8000000 in
set_option maxRecDepth 100000 in
theorem step4_c {W w0 w : World} {S : Nat → Prop} {p q : Nat} {k : Int} {G K : GD} (h : Px W w0 S p q k G K w) (hk : k ≤ 900000) (x : OM) (hx : OMk W x) (hd : x.do_ = 4) :
    Calls Try.prog 19 #[.pointer (some ⟨p, 0, none⟩), .pointer (some ⟨q, 0, none⟩), .agg (omL x).toArray] w (StG W w0 S p q (k + 4) (stepG x K.gn G)) := by
  have hA : Below w.heap.size w (w.alloc (.cells (omL x).toArray 25)) := (Below.refl _ _).alloc (Nat.le_refl _) _
  obtain ⟨S', hS', hi, hout⟩ := h.inner hA
  have hbx := Box.new w 25 (omL x).toArray
  have HN : Hid (¬ S' w.heap.size) := Lib.hid (fun e => by have := (hS' _ e).1; omega)
  obtain ⟨g3, gl⟩ := hi.kgen
  obtain ⟨⟨g0, g1⟩, ⟨k0, k1⟩, _⟩ := hi.gn
  obtain ⟨x0, x1, x2, x3, x4, x5, x6, xl⟩ := om7 hbx
  have HX := Lib.hid hbx
  have HI := Lib.hid hi
  have hK2 : K.gn ≤ 900000 := by omega
  generalize hgen : genG x K.gn = gg
  unfold genG at hgen
  have hG : stepG x K.gn G = tickD x.now G := by unfold stepG; rw [if_neg (by omega), if_neg (by omega), if_neg (by omega), if_neg (by omega), if_pos hd]
  rw [hG]
  have HOut := Lib.hid hout
  clear hA hS' hi hbx hG h hout
  rw [hd] at x0
  by_cases hg1 : -100 ≤ x.gen
  · by_cases hg2 : x.gen ≤ 100
    · rw [if_pos ⟨hg1, hg2⟩] at hgen
      subst hgen
      have c1 := fun w' (hw : Px W (w.alloc (.cells (omL x).toArray 25)) S' p q k G K w') => tick_p hw (by omega) x.now
      go_enter Try.func19, Try.ntmps19
      go_wp2_with fail
      with_reducible refine (c1 _ ?_).mono ?_
      · exact HI.out.later (by first | exact Below.refl _ _ | exact below_drewN (Below.refl _ _) _)
      rintro en w2 ⟨rfl, H2⟩
      clear c1 x0 x1 x2 x3 x4 x5 x6 xl g3 gl
      obtain ⟨x0, x1, x2, x3, x4, x5, x6, xl⟩ := om7 (HX.out.off H2.off HN.out)
      have c2 := tick_k H2 (by omega) x.now
      have H2' := Lib.hid H2
      clear H2
      go_wp2_with fail
      with_reducible refine c2.mono ?_
      rintro en w3 ⟨rfl, H3⟩
      clear c2 x0 x1 x2 x3 x4 x5 x6 xl
      have H3' := Lib.hid H3
      clear H3
      go_wp2_with fail
      go_ret
      exact ⟨⟨_, rfl⟩, _, HOut.out _ _ _ _ (H3'.out.bump (by omega))⟩
    · rw [if_neg (fun e => hg2 e.2)] at hgen
      subst hgen
      have c1 := fun w' (hw : Px W (w.alloc (.cells (omL x).toArray 25)) S' p q k G K w') => tick_p hw (by omega) x.now
      go_enter Try.func19, Try.ntmps19
      go_wp2_with fail
      with_reducible refine (c1 _ ?_).mono ?_
      · exact HI.out.later (by first | exact Below.refl _ _ | exact below_drewN (Below.refl _ _) _)
      rintro en w2 ⟨rfl, H2⟩
      clear c1 x0 x1 x2 x3 x4 x5 x6 xl g3 gl
      obtain ⟨x0, x1, x2, x3, x4, x5, x6, xl⟩ := om7 (HX.out.off H2.off HN.out)
      have c2 := tick_k H2 (by omega) x.now
      have H2' := Lib.hid H2
      clear H2
      go_wp2_with fail
      with_reducible refine c2.mono ?_
      rintro en w3 ⟨rfl, H3⟩
      clear c2 x0 x1 x2 x3 x4 x5 x6 xl
      have H3' := Lib.hid H3
      clear H3
      go_wp2_with fail
      go_ret
      exact ⟨⟨_, rfl⟩, _, HOut.out _ _ _ _ (H3'.out.bump (by omega))⟩
  · rw [if_neg (fun e => hg1 e.1)] at hgen
    subst hgen
    have c1 := fun w' (hw : Px W (w.alloc (.cells (omL x).toArray 25)) S' p q k G K w') => tick_p hw (by omega) x.now
    go_enter Try.func19, Try.ntmps19
    go_wp2_with fail
    with_reducible refine (c1 _ ?_).mono ?_
    · exact HI.out.later (by first | exact Below.refl _ _ | exact below_drewN (Below.refl _ _) _)
    rintro en w2 ⟨rfl, H2⟩
    clear c1 x0 x1 x2 x3 x4 x5 x6 xl g3 gl
    obtain ⟨x0, x1, x2, x3, x4, x5, x6, xl⟩ := om7 (HX.out.off H2.off HN.out)
    have c2 := tick_k H2 (by omega) x.now
    have H2' := Lib.hid H2
    clear H2
    go_wp2_with fail
    with_reducible refine c2.mono ?_
    rintro en w3 ⟨rfl, H3⟩
    clear c2 x0 x1 x2 x3 x4 x5 x6 xl
    have H3' := Lib.hid H3
    clear H3
    go_wp2_with fail
    go_ret
    exact ⟨⟨_, rfl⟩, _, HOut.out _ _ _ _ (H3'.out.bump (by omega))⟩
set_option maxHeartbeats 8000000 in
set_option maxRecDepth 100000 in
theorem step5_c {W w0 w : World} {S : Nat → Prop} {p q : Nat} {k : Int} {G K : GD} (h : Px W w0 S p q k G K w) (hk : k ≤ 900000) (x : OM) (hx : OMk W x) (hd : x.do_ ≠ 0 ∧ x.do_ ≠ 1 ∧ x.do_ ≠ 2 ∧ x.do_ ≠ 3 ∧ x.do_ ≠ 4) :
    Calls Try.prog 19 #[.pointer (some ⟨p, 0, none⟩), .pointer (some ⟨q, 0, none⟩), .agg (omL x).toArray] w (StG W w0 S p q (k + 4) (stepG x K.gn G)) := by
  have hA : Below w.heap.size w (w.alloc (.cells (omL x).toArray 25)) := (Below.refl _ _).alloc (Nat.le_refl _) _
  obtain ⟨S', hS', hi, hout⟩ := h.inner hA
  have hbx := Box.new w 25 (omL x).toArray
  have HN : Hid (¬ S' w.heap.size) := Lib.hid (fun e => by have := (hS' _ e).1; omega)
  obtain ⟨g3, gl⟩ := hi.kgen
  obtain ⟨⟨g0, g1⟩, ⟨k0, k1⟩, _⟩ := hi.gn
  obtain ⟨x0, x1, x2, x3, x4, x5, x6, xl⟩ := om7 hbx
  have HX := Lib.hid hbx
  have HI := Lib.hid hi
  have hK2 : K.gn ≤ 900000 := by omega
  generalize hgen : genG x K.gn = gg
  unfold genG at hgen
  have hG : stepG x K.gn G = G := by unfold stepG; rw [if_neg hd.1, if_neg hd.2.1, if_neg hd.2.2.1, if_neg hd.2.2.2.1, if_neg hd.2.2.2.2]
  rw [hG]
  have HOut := Lib.hid hout
  clear hA hS' hi hbx hG h hout
  have d0 : (x.do_ == 0) = false := beq_eq_false_iff_ne.2 hd.1
  have d1 : (x.do_ == 1) = false := beq_eq_false_iff_ne.2 hd.2.1
  have d2 : (x.do_ == 2) = false := beq_eq_false_iff_ne.2 hd.2.2.1
  have d3 : (x.do_ == 3) = false := beq_eq_false_iff_ne.2 hd.2.2.2.1
  have d4 : (x.do_ == 4) = false := beq_eq_false_iff_ne.2 hd.2.2.2.2
  by_cases hg1 : -100 ≤ x.gen
  · by_cases hg2 : x.gen ≤ 100
    · rw [if_pos ⟨hg1, hg2⟩] at hgen
      subst hgen
      have c1 : Calls Try.prog 16 #[.pointer (some ⟨p, 0, none⟩), .int .i64 x.m, .int .i64 (x.gen + K.gn)] (w.alloc (.cells (omL x).toArray 25)).drew (fun en w' => en = .returned (.int .i64 (knowE x.m (x.gen + K.gn) G)) ∧ PB W (w.alloc (.cells (omL x).toArray 25)) S' p q k (G) K w.heap.size x w') := (knows_p (HI.out.later ((Below.refl _ _).drew)) x.m (x.gen + K.gn)).mono (by
        rintro en w2 ⟨rfl, H2⟩
        exact ⟨rfl, H2, HX.out.off H2.off HN.out⟩)
      have c2 : ∀ w', PB W (w.alloc (.cells (omL x).toArray 25)) S' p q k (G) K w.heap.size x w' → Calls Try.prog 43 #[.pointer (some ⟨q, 0, none⟩), .int .i64 x.m, .int .i64 (x.gen + K.gn)] w' (fun en w'' => en = .returned (.int .i64 (knowE x.m (x.gen + K.gn) K)) ∧ PB W (w.alloc (.cells (omL x).toArray 25)) S' p q k (G) (K) w.heap.size x w'') := fun w' hw => (knows_k hw.px x.m (x.gen + K.gn)).mono (by
        rintro en w3 ⟨rfl, H3⟩
        exact ⟨rfl, H3, HX.out.off H3.off HN.out⟩)
      have C2 := Lib.hid c2
      clear c2
      go_enter Try.func19, Try.ntmps19
      go_wp2_with fail
      go_region_held3 (fun wq => wq.cell? ⟨w.heap.size, 1, none⟩ = some (.int .i64 x.m) ∧ wq.cell? ⟨w.heap.size, 6, none⟩ = some (.int .i64 x.now))
        (first | exact ⟨x1, x6⟩ | exact PB.cells (by assumption))
        (first | ((with_reducible refine c1.mono ?_); rintro e w3 ⟨rfl, ht1⟩) | ((with_reducible refine (C2.out _ (by assumption)).mono ?_); rintro e w4 ⟨rfl, ht2⟩))
      all_goals
        have H9 : PB W (w.alloc (.cells (omL x).toArray 25)) S' p q k (G) (K) w.heap.size x w4 := by assumption
        have HP := Lib.hid H9.px
        clear H9 ht2 ht1 c1 C2
        go_wp2_with fail
        go_ret
        exact ⟨⟨_, rfl⟩, _, HOut.out _ _ _ _ (HP.out.bump (by omega))⟩
    · rw [if_neg (fun e => hg2 e.2)] at hgen
      subst hgen
      have c1 : Calls Try.prog 16 #[.pointer (some ⟨p, 0, none⟩), .int .i64 x.m, .int .i64 x.gen] (w.alloc (.cells (omL x).toArray 25)).drew (fun en w' => en = .returned (.int .i64 (knowE x.m x.gen G)) ∧ PB W (w.alloc (.cells (omL x).toArray 25)) S' p q k (G) K w.heap.size x w') := (knows_p (HI.out.later ((Below.refl _ _).drew)) x.m x.gen).mono (by
        rintro en w2 ⟨rfl, H2⟩
        exact ⟨rfl, H2, HX.out.off H2.off HN.out⟩)
      have c2 : ∀ w', PB W (w.alloc (.cells (omL x).toArray 25)) S' p q k (G) K w.heap.size x w' → Calls Try.prog 43 #[.pointer (some ⟨q, 0, none⟩), .int .i64 x.m, .int .i64 x.gen] w' (fun en w'' => en = .returned (.int .i64 (knowE x.m x.gen K)) ∧ PB W (w.alloc (.cells (omL x).toArray 25)) S' p q k (G) (K) w.heap.size x w'') := fun w' hw => (knows_k hw.px x.m x.gen).mono (by
        rintro en w3 ⟨rfl, H3⟩
        exact ⟨rfl, H3, HX.out.off H3.off HN.out⟩)
      have C2 := Lib.hid c2
      clear c2
      go_enter Try.func19, Try.ntmps19
      go_wp2_with fail
      go_region_held3 (fun wq => wq.cell? ⟨w.heap.size, 1, none⟩ = some (.int .i64 x.m) ∧ wq.cell? ⟨w.heap.size, 6, none⟩ = some (.int .i64 x.now))
        (first | exact ⟨x1, x6⟩ | exact PB.cells (by assumption))
        (first | ((with_reducible refine c1.mono ?_); rintro e w3 ⟨rfl, ht1⟩) | ((with_reducible refine (C2.out _ (by assumption)).mono ?_); rintro e w4 ⟨rfl, ht2⟩))
      all_goals
        have H9 : PB W (w.alloc (.cells (omL x).toArray 25)) S' p q k (G) (K) w.heap.size x w4 := by assumption
        have HP := Lib.hid H9.px
        clear H9 ht2 ht1 c1 C2
        go_wp2_with fail
        go_ret
        exact ⟨⟨_, rfl⟩, _, HOut.out _ _ _ _ (HP.out.bump (by omega))⟩
  · rw [if_neg (fun e => hg1 e.1)] at hgen
    subst hgen
    have c1 : Calls Try.prog 16 #[.pointer (some ⟨p, 0, none⟩), .int .i64 x.m, .int .i64 x.gen] (w.alloc (.cells (omL x).toArray 25)).drew (fun en w' => en = .returned (.int .i64 (knowE x.m x.gen G)) ∧ PB W (w.alloc (.cells (omL x).toArray 25)) S' p q k (G) K w.heap.size x w') := (knows_p (HI.out.later ((Below.refl _ _).drew)) x.m x.gen).mono (by
      rintro en w2 ⟨rfl, H2⟩
      exact ⟨rfl, H2, HX.out.off H2.off HN.out⟩)
    have c2 : ∀ w', PB W (w.alloc (.cells (omL x).toArray 25)) S' p q k (G) K w.heap.size x w' → Calls Try.prog 43 #[.pointer (some ⟨q, 0, none⟩), .int .i64 x.m, .int .i64 x.gen] w' (fun en w'' => en = .returned (.int .i64 (knowE x.m x.gen K)) ∧ PB W (w.alloc (.cells (omL x).toArray 25)) S' p q k (G) (K) w.heap.size x w'') := fun w' hw => (knows_k hw.px x.m x.gen).mono (by
      rintro en w3 ⟨rfl, H3⟩
      exact ⟨rfl, H3, HX.out.off H3.off HN.out⟩)
    have C2 := Lib.hid c2
    clear c2
    go_enter Try.func19, Try.ntmps19
    go_wp2_with fail
    go_region_held3 (fun wq => wq.cell? ⟨w.heap.size, 1, none⟩ = some (.int .i64 x.m) ∧ wq.cell? ⟨w.heap.size, 6, none⟩ = some (.int .i64 x.now))
      (first | exact ⟨x1, x6⟩ | exact PB.cells (by assumption))
      (first | ((with_reducible refine c1.mono ?_); rintro e w3 ⟨rfl, ht1⟩) | ((with_reducible refine (C2.out _ (by assumption)).mono ?_); rintro e w4 ⟨rfl, ht2⟩))
    all_goals
      have H9 : PB W (w.alloc (.cells (omL x).toArray 25)) S' p q k (G) (K) w.heap.size x w4 := by assumption
      have HP := Lib.hid H9.px
      clear H9 ht2 ht1 c1 C2
      go_wp2_with fail
      go_ret
      exact ⟨⟨_, rfl⟩, _, HOut.out _ _ _ _ (HP.out.bump (by omega))⟩
theorem step_c {W w0 w : World} {S : Nat → Prop} {p q : Nat} {k : Int} {G K : GD} (h : Px W w0 S p q k G K w) (hk : k ≤ 900000) (x : OM) (hx : OMk W x) :
    Calls Try.prog 19 #[.pointer (some ⟨p, 0, none⟩), .pointer (some ⟨q, 0, none⟩), .agg (omL x).toArray] w (StG W w0 S p q (k + 4) (stepG x K.gn G)) := by
  by_cases h0 : x.do_ = 0
  · exact step0_c h hk x hx h0
  by_cases h1 : x.do_ = 1
  · exact step1_c h hk x hx h1
  by_cases h2 : x.do_ = 2
  · exact step2_c h hk x hx h2
  by_cases h3 : x.do_ = 3
  · exact step3_c h hk x hx h3
  by_cases h4 : x.do_ = 4
  · exact step4_c h hk x hx h4
  exact step5_c h hk x hx ⟨h0, h1, h2, h3, h4⟩
end Go.Proofs.Ythbcklamhoekmaa
