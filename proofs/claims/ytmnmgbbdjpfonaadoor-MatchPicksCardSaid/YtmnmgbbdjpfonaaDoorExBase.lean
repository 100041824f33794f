/- expr: trees, as the document has them and as they lie in memory. No condition of its own. -/
import Derived.Test.YtmnmgbbdjpfonaaDoorNum
import Derived.Test.YtmnmgbbdjpfonaaDoorMem
import Derived.BigQuiet
import Derived.Deep.RegionHeld3
namespace Go.Proofs.YtmnmgbbdjpfonaaDoor
open Go.RowKit
set_option linter.unusedVariables false
/-- A filter. -/
inductive Tr where
  | mk (op : Int) (name value : ByteArray) (kids : List Tr) : Tr
def Tr.op : Tr → Int
  | .mk o _ _ _ => o
def Tr.name : Tr → ByteArray
  | .mk _ n _ _ => n
def Tr.value : Tr → ByteArray
  | .mk _ _ v _ => v
def Tr.kids : Tr → List Tr
  | .mk _ _ _ k => k
/-- A part's cells; a part as a value. -/
def exC (t : Tr) (A : Option Addr) (c : Nat) : Array Value := #[.int .i64 t.op, .string t.name, .string t.value, .slice A t.kids.length c]
def exV (t : Tr) (A : Option Addr) (c : Nat) : Value := .agg (exC t A c)
/-- What a machine's part keeps to. -/
structure NodeOk (t : Tr) : Prop where
  lo : -9223372036854775808 ≤ t.op
  hi : t.op < 9223372036854775808
  name : t.name.size ≤ 1152921504606846976
  value : t.value.size ≤ 1152921504606846976
  kids : t.kids.length ≤ 1152921504606846976
/-- The kids of t lie at A, d levels deep, all in blocks that are ok. -/
def TrAt (ok : Nat → Prop) (w : World) : Nat → Option Addr → Tr → Prop
  | 0, _, t => NodeOk t ∧ t.kids.length = 0
  | d + 1, A, t => NodeOk t ∧ (0 < t.kids.length → ∃ b off, A = some ⟨b, off, none⟩ ∧ ok b ∧ b < w.heap.size ∧ ∀ j k, t.kids[j]? = some k → ∃ A' c',
      w.cell? ⟨b, off + j * 4, none⟩ = some (.int .i64 k.op) ∧ w.cell? ⟨b, off + j * 4 + 1, none⟩ = some (.string k.name) ∧ w.cell? ⟨b, off + j * 4 + 2, none⟩ = some (.string k.value) ∧
      w.cell? ⟨b, off + j * 4 + 3, none⟩ = some (.slice A' k.kids.length c') ∧ TrAt ok w d A' k)
theorem TrAt.node {ok : Nat → Prop} {w : World} {d : Nat} {A : Option Addr} {t : Tr} (h : TrAt ok w d A t) : NodeOk t := by
  cases d with
  | zero => exact h.1
  | succ d => exact h.1
theorem TrAt.off {ok : Nat → Prop} {w w' : World} (hs : w.heap.size ≤ w'.heap.size) (hb : ∀ b, b < w.heap.size → ok b → w'.heap[b]? = w.heap[b]?) : ∀ {d : Nat} {A : Option Addr} {t : Tr}, TrAt ok w d A t → TrAt ok w' d A t := by
  intro d
  induction d with
  | zero => exact fun h => h
  | succ d ih =>
    intro A t h
    refine ⟨h.1, fun hp => ?_⟩
    obtain ⟨b, off, e, hk, hlt, hc⟩ := h.2 hp
    refine ⟨b, off, e, hk, Nat.lt_of_lt_of_le hlt hs, fun j k hj => ?_⟩
    obtain ⟨A', c', q0, q1, q2, q3, hkid⟩ := hc j k hj
    have hcell : ∀ o, w'.cell? ⟨b, o, none⟩ = w.cell? ⟨b, o, none⟩ := fun o => by
      have := hb b hlt hk
      simp [World.cell?, this]
    exact ⟨A', c', (hcell _).trans q0, (hcell _).trans q1, (hcell _).trans q2, (hcell _).trans q3, ih hkid⟩
theorem TrAt.below {ok : Nat → Prop} {w w' : World} {d : Nat} {A : Option Addr} {t : Tr} (h : TrAt ok w d A t) (hb : Below w.heap.size w w') : TrAt ok w' d A t :=
  h.off hb.size fun b hlt _ => hb.block b hlt
theorem TrAt.mono {ok ok' : Nat → Prop} {w : World} (hm : ∀ b, b < w.heap.size → ok b → ok' b) : ∀ {d : Nat} {A : Option Addr} {t : Tr}, TrAt ok w d A t → TrAt ok' w d A t := by
  intro d
  induction d with
  | zero => exact fun h => h
  | succ d ih =>
    intro A t h
    refine ⟨h.1, fun hp => ?_⟩
    obtain ⟨b, off, e, hk, hlt, hc⟩ := h.2 hp
    refine ⟨b, off, e, hm b hlt hk, hlt, fun j k hj => ?_⟩
    obtain ⟨A', c', q0, q1, q2, q3, hkid⟩ := hc j k hj
    exact ⟨A', c', q0, q1, q2, q3, ih hkid⟩
/-- One kid's cells. -/
theorem TrAt.at_ {ok : Nat → Prop} {w : World} {d : Nat} {A : Option Addr} {t : Tr} (h : TrAt ok w d A t) {k : Nat} (hk : k < t.kids.length) :
    ∃ b off A' c' d', d = d' + 1 ∧ A = some ⟨b, off, none⟩ ∧ ok b ∧ b < w.heap.size ∧ w.cell? ⟨b, off + k * 4, none⟩ = some (.int .i64 (t.kids[k]).op) ∧ w.cell? ⟨b, off + k * 4 + 1, none⟩ = some (.string (t.kids[k]).name) ∧
      w.cell? ⟨b, off + k * 4 + 2, none⟩ = some (.string (t.kids[k]).value) ∧ w.cell? ⟨b, off + k * 4 + 3, none⟩ = some (.slice A' (t.kids[k]).kids.length c') ∧ TrAt ok w d' A' t.kids[k] := by
  cases d with
  | zero => have := h.2; omega
  | succ d =>
    obtain ⟨b, off, e, ho, hlt, hc⟩ := h.2 (by omega)
    obtain ⟨A', c', q⟩ := hc k _ (List.getElem?_eq_getElem hk)
    exact ⟨b, off, A', c', d, rfl, e, ho, hlt, q⟩
/-- More levels do no harm. -/
theorem TrAt.deeper {ok : Nat → Prop} {w : World} : ∀ {d : Nat} {A : Option Addr} {t : Tr}, TrAt ok w d A t → TrAt ok w (d + 1) A t := by
  intro d
  induction d with
  | zero => exact fun h => ⟨h.1, fun hp => absurd h.2 (by omega)⟩
  | succ d ih =>
    intro A t h
    refine ⟨h.1, fun hp => ?_⟩
    obtain ⟨b, off, e, hk, hlt, hc⟩ := h.2 hp
    refine ⟨b, off, e, hk, hlt, fun j k hj => ?_⟩
    obtain ⟨A', c', q0, q1, q2, q3, hkid⟩ := hc j k hj
    exact ⟨A', c', q0, q1, q2, q3, ih hkid⟩
/-- The box of a part that came as an argument. -/
structure Boxed (W : World) (t : Tr) (A : Option Addr) (c : Nat) (w : World) : Prop where
  box : Box w W.heap.size 24 (exC t A c)
  bel : Below W.heap.size W w
theorem Boxed.start (W : World) (t : Tr) (A : Option Addr) (c : Nat) : Boxed W t A c (W.alloc (.cells (exC t A c) 24)) :=
  ⟨Box.new _ _ _, (Below.refl _ _).alloc (Nat.le_refl _) _⟩
theorem Boxed.cells {W w : World} {t : Tr} {A : Option Addr} {c : Nat} (h : Boxed W t A c w) :
    w.cell? ⟨W.heap.size, 0, none⟩ = some (.int .i64 t.op) ∧ w.cell? ⟨W.heap.size, 1, none⟩ = some (.string t.name) ∧ w.cell? ⟨W.heap.size, 2, none⟩ = some (.string t.value) ∧ w.cell? ⟨W.heap.size, 3, none⟩ = some (.slice A t.kids.length c) :=
  ⟨h.box.cell 0, h.box.cell 1, h.box.cell 2, h.box.cell 3⟩
theorem Boxed.later {W w w' : World} {t : Tr} {A : Option Addr} {c : Nat} (h : Boxed W t A c w) (hb : Below w.heap.size w w') : Boxed W t A c w' :=
  ⟨h.box.later hb, h.bel.trans (hb.mono h.bel.size)⟩
theorem Boxed.drewN {W w : World} {t : Tr} {A : Option Addr} {c : Nat} (h : Boxed W t A c w) (n : Nat) : Boxed W t A c (w.drewN n) := ⟨h.box.drewN n, h.bel.trans ⟨rfl, rfl, rfl, Nat.le_refl _, fun _ _ => rfl⟩⟩
end Go.Proofs.YtmnmgbbdjpfonaaDoor
