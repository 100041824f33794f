/- assign: the document's Check, by a contract. No condition. -/
import Derived.Test.YthbcklamhoekmaaAsRan
import Derived.BigQuiet
import Derived.Deep.QuietTactic
namespace Go.Proofs.Ythbcklamhoekmaa
open Go.RowKit
set_option linter.unusedVariables false
set_option maxHeartbeats 2000000 in
set_option maxRecDepth 100000 in
theorem rrise_c (L : List ByteArray) (A : Option Addr) (c : Nat) (W : World) (hH : StrIn W A L) (hl : L.length ≤ 140737488351232) :
    Calls Try.prog 89 #[.slice A L.length c] W (fun e w' => e = .returned (.bool (risesB bL L)) ∧ ∃ n, w' = W.drewN n) := by
  have HH := Lib.hid hH
  clear hH
  go_enter Try.func89, Try.ntmps89
  go_wp2
  go_loopw [3] (fun j wr => ∃ k q : Nat, j = .int .i64 ((k : Int) + 1) ∧ (k = 0 ∨ k < L.length) ∧ RisTo bL L k ∧ wr = W.drewN q) (fun j _ => L.length + 1 - (intOf j).toNat)
  case atStart => exact ⟨0, 0, rfl, .inl rfl, fun i a b hi => absurd hi (Nat.not_lt_zero _), rfl⟩
  case round =>
    obtain ⟨k, q, rfl, hle, hR, rfl⟩ := hrel
    by_cases hk : k + 1 < L.length
    · have hL := HH.out
      have e0 : L[k]? = some L[k] := List.getElem?_eq_getElem (by omega)
      have e1 : L[k + 1]? = some L[k + 1] := List.getElem?_eq_getElem hk
      obtain ⟨b, off, rfl, hlt, hc⟩ := hL (by omega)
      have c0 := hc k _ e0
      have c1 := hc (k + 1) _ e1
      have HS := Lib.hid (hR.succ e0 e1)
      have HN := Lib.hid (rises_not (lt := bL) e0 e1)
      have hki : ((k : Int) + 1) < (L.length : Int) := by omega
      have hk0 : (0 : Int) ≤ (k : Int) := by omega
      have hk1 : (k : Int) < (L.length : Int) := by omega
      have hw : IntKind.i64.wrap ((k : Int) + 1 - 1) = (k : Int) := by rw [IntKind.wrap_i64]; omega
      have hw2 : IntKind.i64.wrap (k : Int) = (k : Int) := by rw [IntKind.wrap_i64]; omega
      have hk2 : (0 : Int) ≤ (k : Int) + 1 := by omega
      have hk3 : ((k : Int) + 1).toNat = k + 1 := by omega
      clear hR hc hL
      generalize L[k] = x0 at *
      generalize L[k + 1] = x1 at *
      go_wp2_with fail
      go_quiet (fail)
      all_goals
        cases hd : Op.bytesLess x0.toList x1.toList with
        | true =>
          have HD := Lib.hid (HS.out hd)
          clear hd
          go_wp2_with fail
          go_roundw
          case rel => exact ⟨k + 1, _, by go_num, .inr (by omega), HD.out, by first | exact World.drewN_drewN _ _ _ | rfl⟩
          case measure => simp [intOf]; omega
        | false =>
          have HD := Lib.hid (HN.out hd)
          clear hd
          go_wp2_with fail
          go_ret
          exact ⟨by rw [HD.out]; rfl, _, by first | exact World.drewN_drewN _ _ _ | rfl⟩
    · have HA : Hid (risesB bL L = true) := Lib.hid (hR.all (by omega))
      have hki : ¬ ((k : Int) + 1) < (L.length : Int) := by omega
      clear hR
      go_wp2_with fail
      go_ret
      exact ⟨by rw [HA.out]; rfl, q, rfl⟩
/-- Up to k a list's elements may be, and it rises. -/
def OkTo {α : Type} (ok : α → Bool) (lt : α → α → Bool) (L : List α) (k : Nat) : Prop := (∀ (i : Nat) (x : α), i < k → L[i]? = some x → ok x = true) ∧ (∀ (i : Nat) (a b : α), i + 1 < k → L[i]? = some a → L[i + 1]? = some b → lt a b = true)
theorem OkTo.zero {α : Type} (ok : α → Bool) (lt : α → α → Bool) (L : List α) : OkTo ok lt L 0 := ⟨fun i x h => absurd h (Nat.not_lt_zero _), fun i a b h => absurd h (Nat.not_lt_zero _)⟩
theorem OkTo.one {α : Type} {ok : α → Bool} {lt : α → α → Bool} {L : List α} {x : α} (hx : L[0]? = some x) (h : ok x = true) : OkTo ok lt L 1 :=
  ⟨fun i y hi hy => by
    have : i = 0 := by omega
    subst this
    rw [hx] at hy
    injection hy with hy
    rw [← hy]; exact h, fun i a b hi => by omega⟩
theorem OkTo.succ {α : Type} {ok : α → Bool} {lt : α → α → Bool} {L : List α} {j : Nat} {x y : α} (h0 : OkTo ok lt L (j + 1)) (hy : L[j]? = some y) (hx : L[j + 1]? = some x) (h : ok x = true) (h1 : lt y x = true) : OkTo ok lt L (j + 1 + 1) :=
  ⟨fun i z hi hz => by
    by_cases e : i = j + 1
    · subst e
      rw [hx] at hz
      injection hz with hz
      rw [← hz]; exact h
    · exact h0.1 i z (by omega) hz, fun i a b hi ha hb => by
    by_cases e : i = j
    · subst e
      rw [hy] at ha
      rw [hx] at hb
      injection ha with ha
      injection hb with hb
      rw [← ha, ← hb]; exact h1
    · exact h0.2 i a b (by omega) ha hb⟩
theorem OkTo.all {α : Type} {ok : α → Bool} {lt : α → α → Bool} {L : List α} {k : Nat} (h : OkTo ok lt L k) (hk : L.length ≤ k) : L.all ok = true ∧ risesB lt L = true := by
  constructor
  · rw [List.all_eq_true]
    intro x hx
    obtain ⟨i, hi⟩ := List.getElem?_of_mem hx
    exact h.1 i x (by have := (List.getElem?_eq_some_iff.1 hi).1; omega) hi
  · rw [rises_iff]
    intro i a b ha hb
    exact h.2 i a b (by have := (List.getElem?_eq_some_iff.1 hb).1; omega) ha hb
theorem not_ok {α : Type} {ok : α → Bool} {L : List α} {k : Nat} {x : α} (hx : L[k]? = some x) (h : ok x = false) : L.all ok = false := by
  rw [← Bool.not_eq_true, List.all_eq_true]
  intro hh
  rw [hh x (List.mem_of_getElem? hx)] at h
  cases h
theorem chk_S {S : List SX} {T : List TX} (h : mayS S = false) : chkE S T = 1 := by unfold chkE; rw [h]; rfl
theorem chk_T {S : List SX} {T : List TX} (h : mayT T = false) : chkE S T = 1 := by unfold chkE; rw [h]; simp
theorem chk_both {S : List SX} {T : List TX} (h : mayS S = true) (h2 : mayT T = true) : chkE S T = 0 := by unfold chkE; rw [h, h2]; rfl
theorem mayS_all {S : List SX} (h : S.all okS = false) : mayS S = false := by unfold mayS; rw [h]; simp
theorem mayS_ris {S : List SX} (h : risesB sL S = false) : mayS S = false := by unfold mayS; rw [h]; simp
theorem mayT_all {S : List TX} (h : S.all okT = false) : mayT S = false := by unfold mayT; rw [h]; simp
theorem mayT_ris {S : List TX} (h : risesB tL S = false) : mayT S = false := by unfold mayT; rw [h]; simp
theorem mayS_yes {S : List SX} (hl : S.length ≤ 20) (h : S.all okS = true ∧ risesB sL S = true) : mayS S = true := by unfold mayS; rw [h.1, h.2]; simp [hl]
theorem mayT_yes {S : List TX} (hl : S.length ≤ 20) (h : S.all okT = true ∧ risesB tL S = true) : mayT S = true := by unfold mayT; rw [h.1, h.2]; simp [hl]
end Go.Proofs.Ythbcklamhoekmaa
