/- match: filters of one part, and what they let through. No condition. -/
import Derived.Test.YtmnmgbbdjpfonaaDoorMtNd
namespace Go.Proofs.YtmnmgbbdjpfonaaDoor
open Go.RowKit
set_option linter.unusedVariables false
def L4 (op : Int) (nm vl : ByteArray) : Tr := Tr.mk op nm vl []
theorem L4_at (op : Int) (nm vl : ByteArray) (h1 : 0 ≤ op) (h2 : op ≤ 7) (hn : nm.size ≤ 1000) (hv : vl.size ≤ 1000) (w : World) (A : Option Addr) : TrAt (fun _ => True) w 19 A (L4 op nm vl) :=
  TrAt.le (d := 0) ⟨⟨by show -9223372036854775808 ≤ op; omega, by show op < 9223372036854775808; omega, (by omega : nm.size ≤ 1152921504606846976), (by omega : vl.size ≤ 1152921504606846976), (by decide : (0 : Nat) ≤ 1152921504606846976)⟩, rfl⟩ (by decide)
theorem L4_ok {op : Int} {nm vl : ByteArray} (hp : partB (L4 op nm vl) = true) : checkG (L4 op nm vl) = 0 := by
  have h : OkT 0 1 (L4 op nm vl) := ⟨rfl, Nat.le_refl _⟩
  refine h.ok (by decide) (by decide) ?_
  show (partB (L4 op nm vl) && List.all [] (partsB 5)) = true
  rw [hp]; rfl
theorem has_part {nm : ByteArray} (h : smB nm = true) : partB (L4 4 nm ⟨#[]⟩) = true := by
  unfold partB L4
  simp [Tr.op, Tr.kids, Tr.name, Tr.value, h]
  rfl
theorem is_part {nm vl : ByteArray} (h : smB nm = true) (hv : vl.size ≤ 1000) : partB (L4 5 nm vl) = true := by
  unfold partB L4
  simp [Tr.op, Tr.kids, Tr.name, Tr.value, h, hv]
theorem pre_part {vl : ByteArray} (h : smB vl = true) : partB (L4 6 ⟨#[]⟩ vl) = true := by
  unfold partB L4
  simp [Tr.op, Tr.kids, Tr.name, Tr.value, h]
  rfl
theorem has_lets (r : Rec) (nm : ByteArray) : letsG r 6 (L4 4 nm ⟨#[]⟩) = (headerG r.heads nm).2 := by
  show thruB (letsG r 5) r (L4 4 nm ⟨#[]⟩) = _
  unfold thruB L4
  simp [Tr.op, Tr.name]
theorem is_lets (r : Rec) (nm vl : ByteArray) : letsG r 6 (L4 5 nm vl) = ((headerG r.heads nm).2 && decide ((headerG r.heads nm).1 = vl)) := by
  show thruB (letsG r 5) r (L4 5 nm vl) = _
  unfold thruB L4
  simp [Tr.op, Tr.name, Tr.value]
  first | done | rfl | congr
theorem pre_lets (r : Rec) (vl : ByteArray) : letsG r 6 (L4 6 ⟨#[]⟩ vl) = (!r.bare && preB r.key vl) := by
  show thruB (letsG r 5) r (L4 6 ⟨#[]⟩ vl) = _
  unfold thruB L4
  simp [Tr.op, Tr.value]
theorem header_there {hs : List Hd} {k : Nat} (hk : k < hs.length) : (headerG hs hs[k].1).2 = true ∧ ∃ x ∈ hs, (headerG hs hs[k].1).1 = x.2 := by
  unfold headerG
  cases hf : hs.find? (fun h => h.1 = hs[k].1) with
  | none =>
    have := List.find?_eq_none.1 hf hs[k] (List.getElem_mem hk)
    simp at this
  | some h => exact ⟨rfl, h, List.mem_of_find?_eq_some hf, rfl⟩
theorem pre_self {s : ByteArray} {n : Nat} (hn : n ≤ s.size) : (s.extract 0 n).size = n ∧ preB s (s.extract 0 n) = true := by
  have e : (s.extract 0 n).size = n := by rw [ByteArray.size_extract]; omega
  refine ⟨e, ?_⟩
  unfold preB
  rw [e]
  simp [hn]
theorem ok_parts {r : Rec} (h : recE r = 0) : r.key.size ≤ 1000 ∧ ∀ x ∈ r.heads, 1 ≤ x.1.size ∧ x.1.size ≤ 1000 ∧ x.2.size ≤ 1000 := by
  unfold recE at h
  split at h
  · rename_i h2
    unfold okRec okLen at h2
    simp only [Bool.and_eq_true, decide_eq_true_eq, List.all_eq_true] at h2
    refine ⟨by omega, fun x hx => ?_⟩
    have := h2.2 x hx
    unfold okHead at this
    simpa only [decide_eq_true_eq] using this
  · cases h
/-- The box of a record. -/
structure RBox (W : World) (r : Rec) (A : Option Addr) (c : Nat) (w : World) : Prop where
  box : Box w W.heap.size 27 (recC r A c)
  bel : Below W.heap.size W w
  rin : RIn w r A c
  tabs : Tabs w
theorem RBox.start {W : World} {r : Rec} {A : Option Addr} {c : Nat} (hR : RIn W r A c) (hTb : Tabs W) : RBox W r A c (W.alloc (.cells (recC r A c) 27)) := by
  have hb : Below W.heap.size W (W.alloc (.cells (recC r A c) 27)) := (Below.refl _ _).alloc (Nat.le_refl _) _
  exact ⟨Box.new _ _ _, hb, hR.below hb, hTb.below hb⟩
theorem RBox.later {W w w' : World} {r : Rec} {A : Option Addr} {c : Nat} (h : RBox W r A c w) (hb : Below w.heap.size w w') : RBox W r A c w' :=
  ⟨h.box.later hb, h.bel.trans (hb.mono h.bel.size), h.rin.below hb, h.tabs.below hb⟩
end Go.Proofs.YtmnmgbbdjpfonaaDoor
