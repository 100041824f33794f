/- coord: all groups and the offsets, of the call's own. Plain laws. No condition. -/
import Derived.Test.YtlokhhjhckiloaaCoRep
import Derived.Test.YtlokhhjhckiloaaCoOt
import Derived.Test.YtlokhhjhckiloaaMbOw
namespace Go.Proofs.Ytlokhhjhckiloaa
open Go.RowKit Go.Maps Go.ChangeMaps Go.WideMaps
set_option linter.unusedVariables false
section
variable {w w' : World} {B B' p p' : Nat} {v v' : Value} {R R' : List MV} {G G' : GD}
theorem own_ne_map {base n size t : Nat} {v : Value} {xs : List Value} {k : TypeId} {T : Value → Option (DataW Unit × List MemPlace)} {g m : Nat} {D : DataW Unit} (h : w.ownsRow base t size v n xs) (hm : w.ownsMap Try.prog k T g m D) : v.ownBlock ≠ some g := by
  intro e
  rcases h.2 with ⟨rfl, _⟩ | ⟨b, cap, cur, rfl, _, hg, _⟩
  · cases e
  · have : b = g := by simpa [Value.ownBlock] using e
    subst this
    obtain ⟨es, clock, hb, _⟩ := hm
    rw [hg] at hb
    cases hb
theorem two_boxes {b c : Nat} {t t' : TypeId} {cs cs' : Array Value} (h : Box w b t cs) (h' : Box w c t' cs') (hne : t ≠ t') : b ≠ c := by
  intro e
  subst e
  unfold Box at h h'
  rw [h] at h'
  injection h' with h'
  injection h' with _ h2 _
  exact hne h2
/-- What a group's calls write is no block of another type. -/
theorem grS_box (h : GrIs w B p v R G) {b : Nat} {t : TypeId} {cs : Array Value} (hb : Box w b t cs) (h1 : t ≠ 73) (h2 : t ≠ 61) : ¬ GrS p v b := by
  rintro (e | e)
  · exact two_boxes hb h.box h1 e
  · exact own_ne h.row hb h2 b e rfl
theorem grS_map (h : GrIs w B p v R G) {k : TypeId} {T : Value → Option (DataW Unit × List MemPlace)} {g m : Nat} {D : DataW Unit} (hm : w.ownsMap Try.prog k T g m D) : ¬ GrS p v g := by
  rintro (e | e)
  · exact box_ne_map h.box hm e.symm
  · exact own_ne_map h.row hm e
/-- Another group is as it was. -/
theorem GrIs.other (h : GrIs w B p v R G) (h' : GrIs w B' p' v' R' G') (hne : p' ≠ p) (hap : ∀ j, v'.ownBlock = some j → v.ownBlock ≠ some j) (ho : Off (GrS p v) w w') : GrIs w' B' p' v' R' G' := by
  have q0 : ∀ {t size n : Nat} {x : Value} {xs : List Value}, w.ownsRow B' t size x n xs → 73 ≠ t → t ≠ 61 → w'.ownsRow B' t size x n xs := fun hr hn hn2 => own_off hr ho (fun k hk hS => by
    rcases hS with rfl | e
    · exact own_ne hr h.box hn k hk rfl
    · exact own_two hr h.row hn2 k hk e)
  refine ⟨h'.box.off ho (fun hS => ?_), h'.base, own_off h'.row ho (fun k hk hS => ?_), fun x hx => ⟨q0 (h'.all x hx).tr (by decide) (by decide), q0 (h'.all x hx).pr (by decide) (by decide)⟩, h'.abs⟩
  · rcases hS with e | e
    · exact hne e
    · exact own_ne h.row h'.box (by decide) p' e rfl
  · rcases hS with e | e
    · exact own_ne h'.row h.box (by decide) k hk e
    · exact hap k hk e
end
def updF {α : Type} (f : Nat → α) (b : Nat) (x : α) (i : Nat) : α := if i = b then x else f i
theorem updF_same {α : Type} (f : Nat → α) (b : Nat) (x : α) : updF f b x b = x := if_pos rfl
theorem updF_ne {α : Type} (f : Nat → α) {b i : Nat} (x : α) (h : i ≠ b) : updF f b x i = f i := if_neg h
/-- All groups, each by its block: where its members stand, what it is. F: those in the map, H: those and one that is being made. -/
structure CO (W w : World) (p g o og : Nat) (k ss rb : Int) (F H : List CE) (V : Nat → Value) (D : Nat → GD) (O : List Of.KE) : Prop where
  is : CoIs w p g o ss rb F
  hp : W.heap.size ≤ p
  hg : W.heap.size ≤ g
  sub : ∀ e ∈ F, e ∈ H
  grp : ∀ e ∈ H, GO W w e.blk (V e.blk) k (D e.blk)
  nd : ∀ e ∈ H, ∀ e' ∈ H, e.blk = e'.blk → e.name = e'.name
  ap : ∀ e ∈ H, ∀ e' ∈ H, e.blk ≠ e'.blk → ∀ j, (V e.blk).ownBlock = some j → (V e'.blk).ownBlock ≠ some j
  ot : Of.OT W o og 1000 O w
  sep : og ≠ g
  bel : Below W.heap.size W w
  few : F.length ≤ 20
  nm : ∀ e ∈ F, e.name.length ≤ 100
  ss : 1 ≤ ss ∧ ss ≤ 100000
  rb : 1 ≤ rb ∧ rb ≤ 100000
section
variable {W w w' : World} {p g o og : Nat} {k ss rb : Int} {F H : List CE} {V : Nat → Value} {D : Nat → GD} {O : List Of.KE}
theorem CO.later (h : CO W w p g o og k ss rb F H V D O) (hb : Below w.heap.size w w') : CO W w' p g o og k ss rb F H V D O :=
  ⟨h.is.later hb, h.hp, h.hg, h.sub, fun e he => (h.grp e he).later hb, h.nd, h.ap, h.ot.later hb, h.sep, h.bel.trans (hb.mono h.bel.size), h.few, h.nm, h.ss, h.rb⟩
theorem CO.bump {j : Int} (h : CO W w p g o og k ss rb F H V D O) (hj : k ≤ j) : CO W w p g o og j ss rb F H V D O :=
  ⟨h.is, h.hp, h.hg, h.sub, fun e he => (h.grp e he).bump hj, h.nd, h.ap, h.ot, h.sep, h.bel, h.few, h.nm, h.ss, h.rb⟩
/-- A call on one group. -/
theorem CO.call {e : CE} {v' : Value} {G' : GD} {j : Int} (h : CO W w p g o og k ss rb F H V D O) (he : e ∈ H) (h' : GO W w' e.blk v' j G') (ho : Off (GrS e.blk (V e.blk)) w w') (hv : ∀ i, v'.ownBlock = some i → (V e.blk).ownBlock = some i ∨ w.heap.size ≤ i) (hj : k ≤ j) :
    CO W w' p g o og j ss rb F H (updF V e.blk v') (updF D e.blk G') O := by
  obtain ⟨R, hR⟩ := (h.grp e he).is
  have hob := h.ot.is.box
  have hom := h.ot.is.map
  refine ⟨h.is.off ho (grS_box hR h.is.box (by decide) (by decide)) (grS_map hR h.is.map), h.hp, h.hg, h.sub, fun e2 he2 => ?_, h.nd, fun e2 he2 e3 he3 hne i hi => ?_, h.ot.off ho (grS_box hR hob (by decide) (by decide)) (grS_map hR hom), h.sep, h.bel.trans (ho.below h.bel.size (fun i hi => ((h.grp e he).lt i hi).1)), h.few, h.nm, h.ss, h.rb⟩
  · by_cases hb : e2.blk = e.blk
    · rw [hb, updF_same, updF_same]; exact h'
    · rw [updF_ne _ _ hb, updF_ne _ _ hb]
      have h2 := h.grp e2 he2
      obtain ⟨R2, hR2⟩ := h2.is
      exact ⟨⟨R2, hR.other hR2 hb (h.ap e2 he2 e he hb) ho⟩, h2.q.mono hj, h2.n, h.bel.trans (ho.below h.bel.size (fun i hi => ((h.grp e he).lt i hi).1))⟩
  · by_cases hb : e2.blk = e.blk
    · have hb3 : e3.blk ≠ e.blk := fun x => hne (hb.trans x.symm)
      rw [hb, updF_same] at hi
      rw [updF_ne _ _ hb3]
      rcases hv i hi with x | x
      · exact h.ap e he e3 he3 (fun x => hb3 x.symm) i x
      · intro y
        have := ((h.grp e3 he3).lt i (.inr y)).2
        omega
    · rw [updF_ne _ _ hb] at hi
      by_cases hb3 : e3.blk = e.blk
      · rw [hb3, updF_same]
        intro y
        rcases hv i y with x | x
        · exact h.ap e2 he2 e he hb i hi x
        · have := ((h.grp e2 he2).lt i (.inr hi)).2
          omega
      · rw [updF_ne _ _ hb3]
        exact h.ap e2 he2 e3 he3 hne i hi
/-- One group more is made: an empty one, not in the map yet. -/
theorem CO.add (h : CO W w p g o og k ss rb F F V D O) (hk : 0 ≤ k) (n : List UInt8) (hn : ofN F n = none) :
    CO W (w.alloc (.cells #[.int .i64 0, .int .i64 0, .int .i64 0, .int .i64 0, .slice none 0 0, .int .i64 ss, .int .i64 rb] 73)) p g o og k ss rb F (⟨n, w.heap.size⟩ :: F) (updF V w.heap.size (.slice none 0 0)) (updF D w.heap.size (newG ss rb)) O := by
  have h2 := h.later ((Below.refl _ _).alloc (Nat.le_refl _) (.cells #[.int .i64 0, .int .i64 0, .int .i64 0, .int .i64 0, .slice none 0 0, .int .i64 ss, .int .i64 rb] 73))
  have hf : ∀ e ∈ F, e.blk ≠ w.heap.size := fun e he x => by
    have := ((h.grp e he).lt e.blk (.inl rfl)).2
    omega
  refine ⟨h2.is, h.hp, h.hg, fun e he => List.mem_cons_of_mem _ he, fun e he => ?_, fun e he e' he' x => ?_, fun e he e' he' hne j hj => ?_, h2.ot, h.sep, h2.bel, h.few, h.nm, h.ss, h.rb⟩
  · rcases List.mem_cons.1 he with rfl | he
    · rw [updF_same, updF_same]
      exact (GO.new h.bel h.ss h.rb).bump hk
    · rw [updF_ne _ _ (hf e he), updF_ne _ _ (hf e he)]
      exact h2.grp e he
  · rcases List.mem_cons.1 he with rfl | he
    · rcases List.mem_cons.1 he' with rfl | he'
      · rfl
      · exact absurd x.symm (hf e' he')
    · rcases List.mem_cons.1 he' with rfl | he'
      · exact absurd x (hf e he)
      · exact h.nd e he e' he' x
  · rcases List.mem_cons.1 he with rfl | he
    · rw [updF_same] at hj
      cases hj
    · rw [updF_ne _ _ (hf e he)] at hj
      rcases List.mem_cons.1 he' with rfl | he'
      · rw [updF_same]
        exact fun x => by cases x
      · rw [updF_ne _ _ (hf e' he')]
        exact h.ap e he e' he' hne j hj
/-- The one that was being made is let go. -/
theorem CO.shut (h : CO W w p g o og k ss rb F H V D O) : CO W w p g o og k ss rb F F V D O :=
  ⟨h.is, h.hp, h.hg, fun e he => he, fun e he => h.grp e (h.sub e he), fun e he e' he' => h.nd e (h.sub e he) e' (h.sub e' he'), fun e he e' he' => h.ap e (h.sub e he) e' (h.sub e' he'), h.ot, h.sep, h.bel, h.few, h.nm, h.ss, h.rb⟩
theorem grown_off {w w' : World} {g : Nat} (hg : w.grownBy w' (some g)) : Off (fun i => i = g) w w' := (Off.refl (fun i => i = g) w).grown hg (fun i e _ => by injection e with e; exact e.symm)
/-- It is kept. -/
theorem CO.put {x : CE} (h : CO W w p g o og k ss rb F H V D O) (hx : x ∈ H) (hn : x.name.length ≤ 100) (hl : (putC x F).length ≤ 20) (hm : w'.ownsMap Try.prog 9 tokC g (putC x F).length (mapC (putC x F))) (hg : w.grownBy w' (some g)) : CO W w' p g o og k ss rb (putC x F) (putC x F) V D O := by
  have ho := grown_off hg
  have hsub : ∀ e ∈ putC x F, e ∈ H := fun e he => by
    rcases putC_mem.1 he with rfl | ⟨he, _⟩
    · exact hx
    · exact h.sub e he
  have hgb : W.heap.size ≤ g := h.hg
  have hob : o ≠ g := box_ne_map h.ot.is.box h.is.map
  have hbel : Below W.heap.size W w' := h.bel.trans (ho.below h.bel.size (fun i hi => by rw [hi]; exact hgb))
  refine ⟨⟨h.is.box.off ho (fun e => box_ne_map h.is.box h.is.map e), hm, putC_rise h.is.rise⟩, h.hp, h.hg, fun e he => he, fun e he => ?_, fun e he e' he' => h.nd e (hsub e he) e' (hsub e' he'), fun e he e' he' => h.ap e (hsub e he) e' (hsub e' he'), h.ot.off ho hob (fun e => ?_), h.sep, hbel, hl, fun e he => ?_, h.ss, h.rb⟩
  · have h2 := h.grp e (hsub e he)
    obtain ⟨R, hR⟩ := h2.is
    have hq : ∀ {t size n : Nat} {x : Value} {xs : List Value}, w.ownsRow W.heap.size t size x n xs → w'.ownsRow W.heap.size t size x n xs := fun hr => own_off hr ho (fun i hi e => own_ne_map hr h.is.map (by rw [hi, e]))
    exact ⟨⟨R, hR.box.off ho (fun e => box_ne_map hR.box h.is.map e), hR.base, hq hR.row, fun x hx => ⟨hq (hR.all x hx).tr, hq (hR.all x hx).pr⟩, hR.abs⟩, h2.q, h2.n, hbel⟩
  · exact h.sep e
  · rcases putC_mem.1 he with rfl | ⟨he, _⟩
    · exact hn
    · exact h.nm e he
/-- A block that is none of theirs has turned. -/
theorem CO.box {b : Nat} {t : TypeId} {cs : Array Value} (h : CO W w p g o og k ss rb F H V D O) (hb : Box w b t cs) (ht : t ≠ 53 ∧ t ≠ 73 ∧ t ≠ 61 ∧ t ≠ 9 ∧ t ≠ 42 ∧ t ≠ 76) (hW : W.heap.size ≤ b) (ho : Off (fun i => i = b) w w') : CO W w' p g o og k ss rb F H V D O := by
  obtain ⟨t1, t2, t3, t4, t5, t6⟩ := ht
  have hbel : Below W.heap.size W w' := h.bel.trans (ho.below h.bel.size (fun i hi => by rw [hi]; exact hW))
  refine ⟨h.is.off ho (fun e => two_boxes h.is.box hb (fun x => t1 x.symm) e) (fun e => box_ne_map hb h.is.map e.symm), h.hp, h.hg, h.sub, fun e he => ?_, h.nd, h.ap, h.ot.off ho (fun e => two_boxes h.ot.is.box hb (fun x => t6 x.symm) e) (fun e => box_ne_map hb h.ot.is.map e.symm), h.sep, hbel, h.few, h.nm, h.ss, h.rb⟩
  have h2 := h.grp e he
  obtain ⟨R, hR⟩ := h2.is
  have hq : ∀ {t' size n : Nat} {x : Value} {xs : List Value}, w.ownsRow W.heap.size t' size x n xs → t ≠ t' → w'.ownsRow W.heap.size t' size x n xs := fun hr hne => own_off hr ho (fun i hi e => own_ne hr hb hne i hi e)
  exact ⟨⟨R, hR.box.off ho (fun e => two_boxes hR.box hb (fun x => t2 x.symm) e), hR.base, hq hR.row t3, fun x hx => ⟨hq (hR.all x hx).tr t4, hq (hR.all x hx).pr t5⟩, hR.abs⟩, h2.q, h2.n, hbel⟩
/-- The offsets' map has turned, no more. -/
theorem CO.offs {O' : List Of.KE} (h : CO W w p g o og k ss rb F H V D O) (h' : Of.Wr W o og 1000 O' w w') : CO W w' p g o og k ss rb F H V D O' := by
  have ho := h'.off
  have hom := h.ot.is.map
  have hgb : W.heap.size ≤ og := h.ot.hg
  have hbel : Below W.heap.size W w' := h.bel.trans (ho.below h.bel.size (fun i hi => by rw [hi]; exact hgb))
  refine ⟨h.is.off ho (fun e => box_ne_map h.is.box hom e) (fun e => h.sep e.symm), h.hp, h.hg, h.sub, fun e he => ?_, h.nd, h.ap, h'.ot, h.sep, hbel, h.few, h.nm, h.ss, h.rb⟩
  have h2 := h.grp e he
  obtain ⟨R, hR⟩ := h2.is
  have hq : ∀ {t size n : Nat} {x : Value} {xs : List Value}, w.ownsRow W.heap.size t size x n xs → w'.ownsRow W.heap.size t size x n xs := fun hr => own_off hr ho (fun i hi e => own_ne_map hr hom (by rw [hi, e]))
  exact ⟨⟨R, hR.box.off ho (fun e => box_ne_map hR.box hom e), hR.base, hq hR.row, fun x hx => ⟨hq (hR.all x hx).tr, hq (hR.all x hx).pr⟩, hR.abs⟩, h2.q, h2.n, hbel⟩
end
end Go.Proofs.Ytlokhhjhckiloaa
