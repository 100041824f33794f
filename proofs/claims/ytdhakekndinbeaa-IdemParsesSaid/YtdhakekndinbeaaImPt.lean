/- idem: what Print's closure writes, by a contract. No condition but that the text is not too long. -/
import Derived.Test.YtdhakekndinbeaaImRep
import Derived.Test.YtdhakekndinbeaaPPut
import Derived.Test.YtdhakekndinbeaaBld
namespace Go.Proofs.Ytdhakekndinbeaa
open Go.RowKit
set_option linter.unusedVariables false
theorem BuilderAt.later {T e : TypeId} {B b : Nat} {p : Value} {bs : List Value} {w w' : World} (h : Lib.BuilderAt T e B b p bs w) (hb : Below w.heap.size w w') : Lib.BuilderAt T e B b p bs w' := by
  have hlt := h.lt
  obtain ⟨hB, v, hbk, hown, hne⟩ := h
  refine ⟨hB, v, (hb.block b hlt).trans hbk, ?_, hne⟩
  refine hown.kept (row := none) ⟨hb.os, hb.tape, hb.output, hb.size, fun k hk _ => hb.block k hk⟩ ?_
  cases v.ownBlock with
  | none => exact .inl rfl
  | some g => exact .inr (by simp)
theorem Bld.later {w w' : World} {B b : Nat} {l : List UInt8} (h : Bld w B b l) (hb : Below w.heap.size w w') : Bld w' B b l := by
  rcases h with h | h
  · exact .inl (BuilderAt.later h hb)
  · exact .inr (BuilderAt.later h hb)
theorem Bld.lt {w : World} {B b : Nat} {l : List UInt8} (h : Bld w B b l) : b < w.heap.size := by
  rcases h with h | h
  · exact h.lt
  · exact h.lt
theorem Bld.ge {w : World} {B b : Nat} {l : List UInt8} (h : Bld w B b l) : B ≤ b := by
  rcases h with h | h
  · exact h.1
  · exact h.1
theorem Bld.box {w : World} {B b : Nat} {l : List UInt8} (h : Bld w B b l) {g : Nat} {t : TypeId} {cs : Array Value} (hb : Box w g t cs) (ht : t ≠ 83) : g ≠ b := by
  intro e
  subst e
  unfold Box at hb
  rcases h with ⟨_, v, h, _⟩ | ⟨_, v, h, _⟩ <;> (rw [hb] at h; injection h with h; injection h with _ h _; exact ht h)
theorem Keeps.trans {q : Nat} {W w w' : World} (h : Keeps q W w) (k : Keeps q w w') (hs : W.heap.size ≤ w.heap.size) : Keeps q W w' := fun i hi hq hn => by
  have e := h i hi hq hn
  exact (k i (by omega) hq (fun cur fr x => hn cur fr (e ▸ x))).trans e
theorem Keeps.of_below {q : Nat} {W w : World} (h : Below W.heap.size W w) : Keeps q W w := fun i hi _ _ => h.block i hi
/-- What the closure does. -/
def WrP (B q : Nat) (W : World) (l : List UInt8) (en : Ending) (w' : World) : Prop := en = .returned (.tuple #[]) ∧ Bld w' B q l ∧ Below B W w' ∧ Keeps q W w'
def numC (L : List Int) : Array Value := (L.map (Value.int .i64)).toArray
/-- Numbers as bytes, one behind the other. -/
def putsL (L : List Int) : List UInt8 := L.flatMap putL
theorem puts_snoc (L : List Int) (k : Nat) (x : Int) (h : L[k]? = some x) : putsL (L.take k) ++ putL x = putsL (L.take (k + 1)) := by
  have e : L.take (k + 1) = L.take k ++ [x] := by rw [List.take_add_one, h]; rfl
  unfold putsL
  rw [e, List.flatMap_append]
  simp
theorem puts_len (L : List Int) : (putsL L).length ≤ 10 * L.length := by
  unfold putsL
  induction L with
  | nil => simp
  | cons x l ih =>
    rw [List.flatMap_cons, List.length_append, List.length_cons]
    have := putL_len x
    omega
/-- Between two rounds. -/
structure NpI (B q g : Nat) (L : List Int) (l : List UInt8) (W w : World) : Prop where
  le : B ≤ W.heap.size
  box : Box w g 3 (numC L)
  bld : Bld w B q l
  bel : Below B W w
  keep : Keeps q W w
theorem NpI.step {B q g : Nat} {L : List Int} {l l' : List UInt8} {W w w' : World} (h : NpI B q g L l W w) (hl : Bld w' B q l') (hb : Below B w w') (hk : Keeps q w w') : NpI B q g L l' W w' :=
  ⟨h.le, hk.box h.box (h.bld.box h.box (by decide)) (by decide), hl, h.bel.trans hb, h.keep.trans hk h.bel.size⟩
theorem NpI.later {B q g : Nat} {L : List Int} {l : List UInt8} {W w w' : World} (h : NpI B q g L l W w) (hb : Below w.heap.size w w') : NpI B q g L l W w' :=
  h.step (h.bld.later hb) (hb.mono (Nat.le_trans h.le h.bel.size)) (Keeps.of_below hb)
set_option maxHeartbeats 4000000 in
set_option maxRecDepth 100000 in
theorem nput_c (B q g : Nat) (L : List Int) (n : Nat) (hn : L.length = n) (l : List UInt8) (W : World) (hq : Bld W B q l) (hg : Box W g 3 (numC L)) (hL : L.length ≤ 5) (hb : ∀ x ∈ L, i64B x) (hlen : l.length ≤ 140737488350000) (hB : B ≤ W.heap.size) :
    Calls Try.prog 33 #[.slice (some ⟨g, 0, none⟩) n n, .pointer (some ⟨q, 0, none⟩)] W (WrP B q W (l ++ putsL L)) := by
  have H0 : Hid (NpI B q g L l W W) := Lib.hid ⟨hB, hg, hq, Below.refl _ _, Keeps.of_below (Below.refl _ _)⟩
  have HN := Lib.hid hn
  have HB := Lib.hid hb
  have hn5 : n ≤ 5 := by omega
  clear hq hg hb hn
  go_enter Try.func33, Try.ntmps33
  go_wp2_with fail
  go_loopw [7] (fun i wr => ∃ k : Nat, i = .int .i64 k ∧ k ≤ n ∧ NpI B q g L (l ++ putsL (L.take k)) W wr) (fun i _ => n - (intOf i).toNat)
  case atStart => exact ⟨0, rfl, Nat.zero_le _, by have := H0.out; simpa [putsL] using this⟩
  case round =>
    obtain ⟨k, rfl, hk, hI⟩ := hrel
    have HI := Lib.hid hI
    clear hI H0
    by_cases hkn : k < n
    · have hkL : k < L.length := by have := HN.out; omega
      have hx : L[k]? = some L[k] := List.getElem?_eq_getElem hkL
      have hc : wr.cell? ⟨g, k, none⟩ = some (.int .i64 L[k]) := by
        rw [HI.out.box.cell]
        unfold numC
        simp
      have hxb := HB.out L[k] (List.getElem_mem hkL)
      have hsn := Lib.hid (puts_snoc L k L[k] hx)
      have hl2 : (l ++ putsL (L.take k)).length + (putL L[k]).length ≤ 140737488355328 := by
        have h1 := puts_len (L.take k)
        have h2 := putL_len L[k]
        rw [List.length_append]
        have h3 : (L.take k).length ≤ k := List.length_take_le _ _
        omega
      generalize L[k] = x at *
      have hp := fun w => put_c x w hxb.1 hxb.2
      have HL2 := Lib.hid hl2
      clear hx hl2 hxb
      have hk0 : (0 : Int) ≤ (k : Int) := by omega
      have hki : (k : Int) < (n : Int) := by omega
      go_wp2_with fail
      with_reducible refine (hp _).mono ?_
      rintro en w1 ⟨rfl, hb1⟩
      have HI1 := Lib.hid (HI.out.later hb1)
      have hw := bwrite_c B q (l ++ putsL (L.take k)) ⟨(putL x).toArray⟩ w1 HI1.out.bld HL2.out (Nat.le_trans HI1.out.le HI1.out.bel.size)
      clear hb1 hc
      go_wp2_with fail
      with_reducible refine hw.mono ?_
      rintro en w2 ⟨rfl, hd2, hb2, hk2⟩
      have HI2 : Hid (NpI B q g L (l ++ putsL (L.take (k + 1))) W w2) := Lib.hid (by
        rw [← hsn.out, ← List.append_assoc]
        exact HI1.out.step hd2 hb2 hk2)
      clear hd2 hb2 hk2 hw
      go_wp2_with fail
      go_roundw
      case rel => exact ⟨k + 1, by go_num, hkn, HI2.out⟩
      case measure => simp [intOf]; omega
    · have hkn2 : k = n := by omega
      go_wp2_with fail
      go_end0
      refine ⟨rfl, ?_, HI.out.bel, HI.out.keep⟩
      have := HI.out.bld
      rwa [hkn2, ← HN.out, List.take_length] at this
end Go.Proofs.Ytdhakekndinbeaa
