/- assign: members and topics in memory; small words. No condition. -/
import Derived.Test.YtlokhhjhckiloaaGreatMem
import Derived.Test.YtlokhhjhckiloaaGreatNum
import Derived.Deep.RegionHeld3
import Derived.Maps.AppendAt
import Derived.Deep.AppendLies
namespace Go.Proofs.YtlokhhjhckiloaaGreat
open Go.RowKit
set_option linter.unusedVariables false
/-- A member: its number, what it wants, where that lies. -/
abbrev SX := Int × List ByteArray × Option Addr × Nat
abbrev TX := ByteArray × Int
def sbC (x : SX) : Array Value := #[.int .i64 x.1, .slice x.2.2.1 x.2.1.length x.2.2.2]
def sbV (x : SX) : Value := .agg (sbC x)
def tpC (x : TX) : Array Value := #[.string x.1, .int .i64 x.2]
def tpV (x : TX) : Value := .agg (tpC x)
/-- Texts in a row. -/
def StrIn (w : World) (A : Option Addr) (L : List ByteArray) : Prop :=
  0 < L.length → ∃ b off, A = some ⟨b, off, none⟩ ∧ b < w.heap.size ∧ ∀ j s, L[j]? = some s → w.cell? ⟨b, off + j, none⟩ = some (.string s)
/-- Members in a row. -/
def SbIn (w : World) (A : Option Addr) (L : List SX) : Prop :=
  0 < L.length → ∃ b off, A = some ⟨b, off, none⟩ ∧ b < w.heap.size ∧ ∀ j x, L[j]? = some x →
    (w.cell? ⟨b, off + j * 2, none⟩ = some (.int .i64 x.1) ∧ w.cell? ⟨b, off + j * 2 + 1, none⟩ = some (.slice x.2.2.1 x.2.1.length x.2.2.2)) ∧ StrIn w x.2.2.1 x.2.1
/-- Topics in a row. -/
def TpIn (w : World) (A : Option Addr) (L : List TX) : Prop :=
  0 < L.length → ∃ b off, A = some ⟨b, off, none⟩ ∧ b < w.heap.size ∧ ∀ j x, L[j]? = some x →
    w.cell? ⟨b, off + j * 2, none⟩ = some (.string x.1) ∧ w.cell? ⟨b, off + j * 2 + 1, none⟩ = some (.int .i64 x.2)
section
variable {w w' : World} {A : Option Addr}
theorem StrIn.below {L : List ByteArray} (h : StrIn w A L) (hb : Below w.heap.size w w') : StrIn w' A L := fun hp => by
  obtain ⟨b, off, e, hlt, hc⟩ := h hp
  exact ⟨b, off, e, Nat.lt_of_lt_of_le hlt hb.size, fun j x hx => (hb.cell (p := ⟨b, off + j, none⟩) hlt).trans (hc j x hx)⟩
theorem StrIn.nil (w : World) (A : Option Addr) : StrIn w A [] := fun h => absurd h (by simp)
theorem StrIn.at_ {L : List ByteArray} (h : StrIn w A L) {k : Nat} (hk : k < L.length) : ∃ b off, A = some ⟨b, off, none⟩ ∧ b < w.heap.size ∧ w.cell? ⟨b, off + k, none⟩ = some (.string L[k]) := by
  obtain ⟨b, off, e, hlt, hc⟩ := h (by omega)
  exact ⟨b, off, e, hlt, hc k _ (List.getElem?_eq_getElem hk)⟩
theorem SbIn.below {L : List SX} (h : SbIn w A L) (hb : Below w.heap.size w w') : SbIn w' A L := fun hp => by
  obtain ⟨b, off, e, hlt, hc⟩ := h hp
  exact ⟨b, off, e, Nat.lt_of_lt_of_le hlt hb.size, fun j x hx => ⟨⟨(hb.cell (p := ⟨b, off + j * 2, none⟩) hlt).trans (hc j x hx).1.1, (hb.cell (p := ⟨b, off + j * 2 + 1, none⟩) hlt).trans (hc j x hx).1.2⟩, (hc j x hx).2.below hb⟩⟩
theorem SbIn.nil (w : World) (A : Option Addr) : SbIn w A [] := fun h => absurd h (by simp)
theorem SbIn.at_ {L : List SX} (h : SbIn w A L) {k : Nat} (hk : k < L.length) : ∃ b off, A = some ⟨b, off, none⟩ ∧ b < w.heap.size ∧ w.cell? ⟨b, off + k * 2, none⟩ = some (.int .i64 L[k].1) ∧
    w.cell? ⟨b, off + k * 2 + 1, none⟩ = some (.slice L[k].2.2.1 L[k].2.1.length L[k].2.2.2) ∧ StrIn w L[k].2.2.1 L[k].2.1 := by
  obtain ⟨b, off, e, hlt, hc⟩ := h (by omega)
  obtain ⟨⟨h1, h2⟩, h3⟩ := hc k _ (List.getElem?_eq_getElem hk)
  exact ⟨b, off, e, hlt, h1, h2, h3⟩
theorem TpIn.below {L : List TX} (h : TpIn w A L) (hb : Below w.heap.size w w') : TpIn w' A L := fun hp => by
  obtain ⟨b, off, e, hlt, hc⟩ := h hp
  exact ⟨b, off, e, Nat.lt_of_lt_of_le hlt hb.size, fun j x hx => ⟨(hb.cell (p := ⟨b, off + j * 2, none⟩) hlt).trans (hc j x hx).1, (hb.cell (p := ⟨b, off + j * 2 + 1, none⟩) hlt).trans (hc j x hx).2⟩⟩
theorem TpIn.nil (w : World) (A : Option Addr) : TpIn w A [] := fun h => absurd h (by simp)
theorem TpIn.at_ {L : List TX} (h : TpIn w A L) {k : Nat} (hk : k < L.length) : ∃ b off, A = some ⟨b, off, none⟩ ∧ b < w.heap.size ∧ w.cell? ⟨b, off + k * 2, none⟩ = some (.string L[k].1) ∧ w.cell? ⟨b, off + k * 2 + 1, none⟩ = some (.int .i64 L[k].2) := by
  obtain ⟨b, off, e, hlt, hc⟩ := h (by omega)
  obtain ⟨h1, h2⟩ := hc k _ (List.getElem?_eq_getElem hk)
  exact ⟨b, off, e, hlt, h1, h2⟩
end
theorem ret_bool {a b : Bool} (h : a = b) : Ending.returned (.bool a) = .returned (.bool b) := by rw [h]
/-- Does a list rise? -/
def risesB {α : Type} (lt : α → α → Bool) (L : List α) : Bool := (List.range (L.length - 1)).all fun i => match L[i]?, L[i + 1]? with | some a, some b => lt a b | _, _ => true
theorem rises_iff {α : Type} {lt : α → α → Bool} {L : List α} : risesB lt L = true ↔ ∀ i a b, L[i]? = some a → L[i + 1]? = some b → lt a b = true := by
  unfold risesB
  rw [List.all_eq_true]
  constructor
  · intro h i a b ha hb
    have hi : i + 1 < L.length := (List.getElem?_eq_some_iff.1 hb).1
    have := h i (List.mem_range.2 (by omega))
    rw [ha, hb] at this
    exact this
  · intro h i hi
    have hi' := List.mem_range.1 hi
    rw [List.getElem?_eq_getElem (show i < L.length by omega), List.getElem?_eq_getElem (show i + 1 < L.length by omega)]
    exact h i _ _ (List.getElem?_eq_getElem (by omega)) (List.getElem?_eq_getElem (by omega))
theorem rises_not {α : Type} {lt : α → α → Bool} {L : List α} {i : Nat} {a b : α} (ha : L[i]? = some a) (hb : L[i + 1]? = some b) (h : lt a b = false) : risesB lt L = false := by
  rw [← Bool.not_eq_true, rises_iff]
  intro hh
  rw [hh i a b ha hb] at h
  cases h
/-- Up to k it rises. -/
def RisTo {α : Type} (lt : α → α → Bool) (L : List α) (k : Nat) : Prop := ∀ i a b, i < k → L[i]? = some a → L[i + 1]? = some b → lt a b = true
theorem RisTo.succ {α : Type} {lt : α → α → Bool} {L : List α} {k : Nat} {a b : α} (h : RisTo lt L k) (ha : L[k]? = some a) (hb : L[k + 1]? = some b) (h1 : lt a b = true) : RisTo lt L (k + 1) := fun i x y hi hx hy => by
  by_cases e : i = k
  · subst e
    rw [ha] at hx; rw [hb] at hy
    injection hx with hx; injection hy with hy
    subst hx hy
    exact h1
  · exact h i x y (by omega) hx hy
theorem RisTo.all {α : Type} {lt : α → α → Bool} {L : List α} {k : Nat} (h : RisTo lt L k) (hk : L.length ≤ k + 1) : risesB lt L = true := rises_iff.2 fun i a b ha hb => h i a b (by have := (List.getElem?_eq_some_iff.1 hb).1; omega) ha hb
/-- How Go orders texts, members, topics. -/
def bL (a b : ByteArray) : Bool := Op.bytesLess a.toList b.toList
def sL (a b : SX) : Bool := decide (a.1 < b.1)
def tL (a b : TX) : Bool := bL a.1 b.1
theorem blt_c (a b : ByteArray) (W : World) : Calls Tryz.prog 133 #[.string a, .string b] W (Good W (.bool (bL a b))) := by
  unfold bL
  go_enter Tryz.func133, Tryz.ntmps133
  go_wp2
  go_ret
  exact ⟨rfl, Below.refl _ _⟩
theorem slt_c (a b : SX) (W : World) : Calls Tryz.prog 136 #[sbV a, sbV b] W (Good W (.bool (sL a b))) := by
  unfold sL sbV sbC
  go_enter Tryz.func136, Tryz.ntmps136
  go_wp2
  go_ret
  exact ⟨rfl, ((Below.refl _ _).alloc (Nat.le_refl _) _).alloc (by simp) _⟩
theorem tlt_c (a b : TX) (W : World) : Calls Tryz.prog 140 #[tpV a, tpV b] W (Good W (.bool (tL a b))) := by
  unfold tL bL tpV tpC
  go_enter Tryz.func140, Tryz.ntmps140
  go_wp2
  go_ret
  exact ⟨rfl, ((Below.refl _ _).alloc (Nat.le_refl _) _).alloc (by simp) _⟩
theorem cell_later {w w' : World} {b i : Nat} {u : Value} (h : w.cell? ⟨b, i, none⟩ = some u ∧ b < w.heap.size) (hb : Below w.heap.size w w') : w'.cell? ⟨b, i, none⟩ = some u ∧ b < w'.heap.size := ⟨(hb.cell (p := ⟨b, i, none⟩) h.2).trans h.1, Nat.lt_of_lt_of_le h.2 hb.size⟩
theorem cell2_later {w w' : World} {b i j : Nat} {u v : Value} (h : w.cell? ⟨b, i, none⟩ = some u ∧ w.cell? ⟨b, j, none⟩ = some v ∧ b < w.heap.size) (hb : Below w.heap.size w w') : w'.cell? ⟨b, i, none⟩ = some u ∧ w'.cell? ⟨b, j, none⟩ = some v ∧ b < w'.heap.size := ⟨(hb.cell (p := ⟨b, i, none⟩) h.2.2).trans h.1, (hb.cell (p := ⟨b, j, none⟩) h.2.2).trans h.2.1, Nat.lt_of_lt_of_le h.2.2 hb.size⟩
theorem cell4_later {w w' : World} {b i j k l : Nat} {u v x y : Value} (h : w.cell? ⟨b, i, none⟩ = some u ∧ w.cell? ⟨b, j, none⟩ = some v ∧ w.cell? ⟨b, k, none⟩ = some x ∧ w.cell? ⟨b, l, none⟩ = some y ∧ b < w.heap.size) (hb : Below w.heap.size w w') :
    w'.cell? ⟨b, i, none⟩ = some u ∧ w'.cell? ⟨b, j, none⟩ = some v ∧ w'.cell? ⟨b, k, none⟩ = some x ∧ w'.cell? ⟨b, l, none⟩ = some y ∧ b < w'.heap.size :=
  ⟨(hb.cell (p := ⟨b, i, none⟩) h.2.2.2.2).trans h.1, (hb.cell (p := ⟨b, j, none⟩) h.2.2.2.2).trans h.2.1, (hb.cell (p := ⟨b, k, none⟩) h.2.2.2.2).trans h.2.2.1, (hb.cell (p := ⟨b, l, none⟩) h.2.2.2.2).trans h.2.2.2.1, Nat.lt_of_lt_of_le h.2.2.2.2 hb.size⟩
end Go.Proofs.YtlokhhjhckiloaaGreat
