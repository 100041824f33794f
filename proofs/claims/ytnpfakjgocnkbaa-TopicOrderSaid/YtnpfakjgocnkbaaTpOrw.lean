/- topic: the law TopicOrder walks to true. No condition. -/
import Derived.Test.YtnpfakjgocnkbaaTpOm
namespace Go.Proofs.Ytnpfakjgocnkbaa
open Go.RowKit
set_option linter.unusedVariables false
theorem strInfo : (Try.prog.info? 9).map (fun i => (i.zero, i.size, i.bytes)) = some (some (.string ⟨#[]⟩), 1, 16) := by kernel_rfl
def nmsO (L : List OT) : List Value := L.map fun x => .string x.name
/-- Is a name one that is gone, or one of those ahead? -/
def agB (s g : ByteArray) (L : List OT) : Bool := (s.toList == g.toList) || L.any fun y => y.name.toList == s.toList
theorem agB_snoc {s g : ByteArray} {L : List OT} {k : Nat} {y : OT} (h : L[k]? = some y) : agB s g (L.take (k + 1)) = (agB s g (L.take k) || (y.name.toList == s.toList)) := by
  unfold agB
  rw [take_snoc' h, List.any_append, List.any_cons, List.any_nil, Bool.or_false, Bool.or_assoc]
theorem names_ne {a b : ByteArray} (h : (a.toList == b.toList) = false) : a.data.toList ≠ b.data.toList := by
  rw [← ByteArray.toList_eq, ← ByteArray.toList_eq]
  simpa using h
theorem agB_no {s g : ByteArray} {L : List OT} (h : agB s g L = false) : s.data.toList ≠ g.data.toList ∧ ∀ y ∈ L, y.name.data.toList ≠ s.data.toList := by
  unfold agB at h
  rw [Bool.or_eq_false_iff] at h
  refine ⟨names_ne h.1, fun y hy => names_ne ?_⟩
  have := List.any_eq_false.1 h.2 y hy
  simpa using this
/-- Between two rounds: those made so far. -/
structure OrI (W : World) (g : ByteArray) (L : List OT) (pa pb : Nat) (v : Value) (k : Nat) (w : World) : Prop where
  row : w.ownsRow W.heap.size 9 1 v k (nmsO (L.take k))
  tab : ∃ ta, T2 W pa ta pb (0, []) w ∧ Has ta (L.take k) k
  gone : ∀ x ∈ L.take k, x.name.data.toList ≠ g.data.toList
  dist : (L.take k).Pairwise fun a b => a.name.data.toList ≠ b.name.data.toList
theorem OrI.bel {W w : World} {g : ByteArray} {L : List OT} {pa pb k : Nat} {v : Value} (h : OrI W g L pa pb v k w) : Below W.heap.size W w := by
  obtain ⟨ta, h1, _⟩ := h.tab
  exact h1.bel
theorem OrI.later {W w w' : World} {g : ByteArray} {L : List OT} {pa pb k : Nat} {v : Value} (h : OrI W g L pa pb v k w) (hb : Below w.heap.size w w') : OrI W g L pa pb v k w' := by
  obtain ⟨ta, h1, h2⟩ := h.tab
  exact ⟨own_below h.row hb, ⟨ta, h1.later hb, h2⟩, h.gone, h.dist⟩
/-- A slice of names is none of a table's blocks. -/
theorem T2.row {W w w' : World} {pa pb n : Nat} {ta tb : TS} {v : Value} {xs : List Value} {B : Nat} (h : T2 W pa ta pb tb w) (hr : w.ownsRow B 9 1 v n xs) (hB : W.heap.size ≤ B) (hg : w.grownBy w' v.ownBlock) : T2 W pa ta pb tb w' := by
  obtain ⟨Sa, Sb, ⟨ma, a1, a2, a3⟩, ⟨mb, b1, b2, b3⟩, h3, h4, h5⟩ := h.ex
  have hne : ∀ {p : Nat} {m : Option Nat} {t : TS}, TbIs w p m t.1 t.2 → ∀ k, v.ownBlock = some k → k ≠ p ∧ m ≠ some k := fun {p m t} ht k hk => by
    rcases hr.2 with ⟨rfl, _⟩ | ⟨q, cap, cur, rfl, _, hq, _⟩
    · cases hk
    · have e : q = k := by simpa [Value.ownBlock] using hk
      subst e
      refine ⟨fun e => ?_, fun e => ?_⟩
      · subst e
        have := ht.box
        unfold Box at this
        rw [hq] at this
        injection this with this
        injection this with _ e2 _
        exact absurd e2 (by decide)
      · rcases ht.map with ⟨e1, _⟩ | ⟨q', e1, hm⟩
        · rw [e1] at e; cases e
        · rw [e1] at e
          injection e with e
          subst e
          obtain ⟨es, clock, hb, _⟩ := hm
          rw [hq] at hb
          cases hb
  have hO : Off (fun k => v.ownBlock = some k) w w' := ⟨hg.os, hg.tape, hg.output, hg.size, fun k hk hn => hg.block k hk (fun e => hn e.symm)⟩
  have keep : ∀ {p : Nat} {m : Option Nat} {t : TS}, TbIs w p m t.1 t.2 → TbIs w' p m t.1 t.2 := fun {p m t} ht => ht.off hO (fun e => (hne ht _ e).1 rfl) (fun k hk e => (hne ht k e).2 hk)
  have hz := hg.size
  exact ⟨⟨Sa, Sb, ⟨ma, keep a1, a2, a3⟩, ⟨mb, keep b1, b2, b3⟩, h3, fun k hk => ⟨(h4 k hk).1, by have := (h4 k hk).2; omega⟩, fun k hk => ⟨(h5 k hk).1, by have := (h5 k hk).2; omega⟩⟩, h.oka, h.okb, h.bel.grown hg h.bel.size (fun j hj => by have := (hr.lt j hj).1; omega)⟩
end Go.Proofs.Ytnpfakjgocnkbaa
