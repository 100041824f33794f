/- clean: batches whose records' headers may lie in the caller's memory: what the document's Clean makes. No condition. -/
import Derived.Test.YtdclkhbolmbnmaaDoorClLv
namespace Go.Proofs.YtdclkhbolmbnmaaDoor
open Go.RowKit Go.Maps Go.ChangeMaps Go.WideMaps
set_option linter.unusedVariables false
/-- A record's headers: in memory that was there, or the call's own. -/
def HdI (W w : World) (y : RX) : Prop := HIn W y.2.1 y.1.heads ∨ w.ownsRow W.heap.size 62 2 (.slice y.2.1 y.1.heads.length y.2.2) y.1.heads.length (headCells y.1.heads)
structure RowI (W w : World) (v : Value) (L : List RX) : Prop where
  row : w.ownsRow W.heap.size 39 7 v L.length (recsC L)
  heads : ∀ y ∈ L, HdI W w y
structure BtsI (W w : World) (v : Value) (L : List BX) : Prop where
  row : w.ownsRow W.heap.size 29 6 v L.length (batsC L)
  recs : ∀ x ∈ L, RowI W w (.slice x.2.2.1 x.2.1.length x.2.2.2) x.2.1
section
variable {W w w' : World} {v : Value}
theorem HdI.later {y : RX} (h : HdI W w y) (hb : Below w.heap.size w w') : HdI W w' y := by
  rcases h with h | h
  · exact .inl h
  · exact .inr (own_below h hb)
theorem HdI.off {y : RX} {b t : Nat} {cs : Array Value} (h : HdI W w y) (ho : Off (· = b) w w') (hb : Box w b t cs) (ht : t ≠ 62) : HdI W w' y := by
  rcases h with h | h
  · exact .inl h
  · exact .inr (own_off h ho (own_ne h hb ht))
theorem HdI.grown {y : RX} {n z t : Nat} {v : Value} {xs : List Value} {B : Nat} (h : HdI W w y) (ho : w.ownsRow B t z v n xs) (ht : 62 ≠ t) (hg : w.grownBy w' v.ownBlock) : HdI W w' y := by
  rcases h with h | h
  · exact .inl h
  · exact .inr (h.kept hg (own_two h ho ht))
theorem RowI.nil (W w : World) : RowI W w (.slice none 0 0) [] := ⟨World.ownsRow_nil _ _ _ _, fun x hx => by cases hx⟩
theorem RowI.of {L : List RX} (h : RowR w W.heap.size v L) : RowI W w v L := ⟨h.row, fun y hy => .inr (h.heads y hy)⟩
theorem RowI.later {L : List RX} (h : RowI W w v L) (hb : Below w.heap.size w w') : RowI W w' v L := ⟨own_below h.row hb, fun y hy => (h.heads y hy).later hb⟩
theorem RowI.off {L : List RX} {b t : Nat} {cs : Array Value} (h : RowI W w v L) (ho : Off (· = b) w w') (hb : Box w b t cs) (h1 : t ≠ 39) (h2 : t ≠ 62) : RowI W w' v L :=
  ⟨own_off h.row ho (own_ne h.row hb h1), fun y hy => (h.heads y hy).off ho hb h2⟩
/-- A record more. -/
theorem RowI.grow {v' : Value} {L : List RX} {y : RX} (h : RowI W w v L) (hy : HdI W w y) (ho : w'.ownsRow W.heap.size 39 7 v' (L.length + 1) (recsC L ++ (recC y.1 y.2.1 y.2.2).toList)) (hg : w.grownBy w' v.ownBlock) : RowI W w' v' (L ++ [y]) := by
  refine ⟨by rw [recsC_snoc, List.length_append]; exact ho, fun z hz => ?_⟩
  rcases List.mem_append.1 hz with hz | hz
  · exact (h.heads z hz).grown h.row (by decide) hg
  · have : z = y := by simpa using hz
    subst this
    exact hy.grown h.row (by decide) hg
theorem RowI.kept {v' : Value} {K : List RX} {n : Nat} {xs : List Value} (h : RowI W w v' K) (ho : w.ownsRow W.heap.size 29 6 v n xs) (hg : w.grownBy w' v.ownBlock) : RowI W w' v' K :=
  ⟨h.row.kept hg (own_two h.row ho (by decide)), fun y hy => (h.heads y hy).grown ho (by decide) hg⟩
theorem BtsI.nil (W w : World) : BtsI W w (.slice none 0 0) [] := ⟨World.ownsRow_nil _ _ _ _, fun x hx => by cases hx⟩
theorem BtsI.later {L : List BX} (h : BtsI W w v L) (hb : Below w.heap.size w w') : BtsI W w' v L := ⟨own_below h.row hb, fun x hx => (h.recs x hx).later hb⟩
theorem BtsI.off {L : List BX} {b : Nat} {cs : Array Value} (h : BtsI W w v L) (ho : Off (· = b) w w') (hb : Box w b 29 cs) (hB : ∀ j, v.ownBlock = some j → j ≠ b) : BtsI W w' v L :=
  ⟨own_off h.row ho (fun j hj e => hB j hj e), fun x hx => (h.recs x hx).off ho hb (by decide) (by decide)⟩
theorem BtsI.grow {v' : Value} {L : List BX} {x : BX} (h : BtsI W w v L) (hx : RowI W w (.slice x.2.2.1 x.2.1.length x.2.2.2) x.2.1)
    (ho : w'.ownsRow W.heap.size 29 6 v' (L.length + 1) (batsC L ++ (bnC x.1 (.slice x.2.2.1 x.2.1.length x.2.2.2)).toList)) (hg : w.grownBy w' v.ownBlock) : BtsI W w' v' (L ++ [x]) := by
  refine ⟨by rw [batsC_snoc, List.length_append]; exact ho, fun y hy => ?_⟩
  rcases List.mem_append.1 hy with hy | hy
  · exact (h.recs y hy).kept h.row hg
  · have : y = x := by simpa using hy
    subst this
    exact hx.kept h.row hg
theorem HdI.read {y : RX} (h : HdI W w y) (hb : Below W.heap.size W w) : HIn w y.2.1 y.1.heads := by
  rcases h with h | h
  · exact h.below hb
  · exact hin_of_own h
theorem rowI_in {L : List RX} {A : Option Addr} {n c : Nat} (h : RowI W w (.slice A n c) L) (hb : Below W.heap.size W w) (hs : ∀ x ∈ L, SmR x.1) : RsIn w A L := fun hp => by
  rcases h.row.2 with ⟨_, h0⟩ | ⟨g, cap, cur, hv, hbg, hg, hr⟩
  · omega
  · injection hv with e1 e2 e3
    subst e1
    refine ⟨g, 0, rfl, lt_of_there hg, fun j x hx => ?_⟩
    have hc := fun i (hi : i < 7) v (hv : (recC x.1 x.2.1 x.2.2)[i]? = some v) => World.ownsRow.cells h.row (g := g) rfl (j * 7 + i) v ((recsC_at hx hi).trans hv)
    have e1 : ∀ i, (⟨g, 0, none⟩ : Addr).add i = ⟨g, i, none⟩ := fun i => by unfold Addr.add; split <;> simp_all
    simp only [e1] at hc
    obtain ⟨s1, s2, s3, s4⟩ := hs x (List.mem_of_getElem? hx)
    rw [Nat.zero_add]
    exact ⟨⟨hc 0 (by omega) _ rfl, hc 1 (by omega) _ rfl, hc 2 (by omega) _ rfl, hc 3 (by omega) _ rfl, hc 4 (by omega) _ rfl, hc 5 (by omega) _ rfl, hc 6 (by omega) _ rfl⟩, ⟨(h.heads x (List.mem_of_getElem? hx)).read hb, s1, s2, s3, s4⟩⟩
theorem btsI_in {L : List BX} {A : Option Addr} {n c : Nat} (h : BtsI W w (.slice A n c) L) (hb : Below W.heap.size W w) (hs : ∀ x ∈ L, ∀ y ∈ x.2.1, SmR y.1) : BsIn w A L := fun hp => by
  rcases h.row.2 with ⟨_, h0⟩ | ⟨g, cap, cur, hv, hbg, hg, hr⟩
  · omega
  · injection hv with e1 e2 e3
    subst e1
    refine ⟨g, 0, rfl, lt_of_there hg, fun j x hx => ?_⟩
    have hc := fun i (hi : i < 6) v (hv : (bnC x.1 (.slice x.2.2.1 x.2.1.length x.2.2.2))[i]? = some v) => World.ownsRow.cells h.row (g := g) rfl (j * 6 + i) v ((batsC_at hx hi).trans hv)
    have e1 : ∀ i, (⟨g, 0, none⟩ : Addr).add i = ⟨g, i, none⟩ := fun i => by unfold Addr.add; split <;> simp_all
    simp only [e1] at hc
    have hm := List.mem_of_getElem? hx
    rw [Nat.zero_add]
    exact ⟨⟨hc 0 (by omega) _ rfl, hc 1 (by omega) _ rfl, hc 2 (by omega) _ rfl, hc 3 (by omega) _ rfl, hc 4 (by omega) _ rfl, hc 5 (by omega) _ rfl⟩, rowI_in (h.recs x hm) hb (hs x hm)⟩
end
end Go.Proofs.YtdclkhbolmbnmaaDoor
