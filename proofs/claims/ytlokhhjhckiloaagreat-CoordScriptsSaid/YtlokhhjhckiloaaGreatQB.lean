/- coord: merged texts. What each proves is told at its head. -/
import Derived.Test.YtlokhhjhckiloaaGreatAsRan
import Derived.BigQuiet
import Derived.Deep.QuietTactic
import Derived.Test.YtlokhhjhckiloaaGreatAsRn
import Derived.Deep.AppendLies
import Derived.Deep.RegionHeld3
import Derived.Deep.Cut
import Derived.Deep.CutRange
import Derived.Test.YtlokhhjhckiloaaGreatKgA
import Derived.Test.YtlokhhjhckiloaaGreatMbAdd
import Derived.BigRegion
import Derived.Test.YtlokhhjhckiloaaGreatMbSy
import Derived.Laws.StructEq
/- assign: the document's Check, by a contract. No condition. -/
namespace Go.Proofs.YtlokhhjhckiloaaGreat
open Go.RowKit
set_option linter.unusedVariables false
set_option maxHeartbeats 2000000 in
set_option maxRecDepth 100000 in
theorem rrise_c (L : List ByteArray) (A : Option Addr) (c : Nat) (W : World) (hH : StrIn W A L) (hl : L.length ≤ 140737488351232) :
    Calls Tryz.prog 130 #[.slice A L.length c] W (fun e w' => e = .returned (.bool (risesB bL L)) ∧ ∃ n, w' = W.drewN n) := by
  have HH := Lib.hid hH
  clear hH
  go_enter Tryz.func130, Tryz.ntmps130
  go_wp2
  go_loopw [3] (fun j wr => ∃ k q : Nat, j = .int .i64 ((k : Int) + 1) ∧ (k = 0 ∨ k < L.length) ∧ RisTo bL L k ∧ wr = W.drewN q) (fun j _ => L.length + 1 - (intOf j).toNat)
  case atStart => exact ⟨0, 0, rfl, .inl rfl, fun i a b hi => absurd hi (Nat.not_lt_zero _), rfl⟩
  case round =>
    obtain ⟨k, q, rfl, hle, hR, rfl⟩ := hrel
    by_cases hk : k + 1 < L.length
    · have hL := HH.out
      have e0 : L[k]? = some L[k] := List.getElem?_eq_getElem (by omega)
      have e1 : L[k + 1]? = some L[k + 1] := List.getElem?_eq_getElem hk
      obtain ⟨b, off, rfl, hlt, hc⟩ := hL (by omega)
      have c0 := hc k _ e0
      have c1 := hc (k + 1) _ e1
      have HS := Lib.hid (hR.succ e0 e1)
      have HN := Lib.hid (rises_not (lt := bL) e0 e1)
      have hki : ((k : Int) + 1) < (L.length : Int) := by omega
      have hk0 : (0 : Int) ≤ (k : Int) := by omega
      have hk1 : (k : Int) < (L.length : Int) := by omega
      have hw : IntKind.i64.wrap ((k : Int) + 1 - 1) = (k : Int) := by rw [IntKind.wrap_i64]; omega
      have hw2 : IntKind.i64.wrap (k : Int) = (k : Int) := by rw [IntKind.wrap_i64]; omega
      have hk2 : (0 : Int) ≤ (k : Int) + 1 := by omega
      have hk3 : ((k : Int) + 1).toNat = k + 1 := by omega
      clear hR hc hL
      generalize L[k] = x0 at *
      generalize L[k + 1] = x1 at *
      go_wp2_with fail
      go_quiet (fail)
      all_goals
        cases hd : Op.bytesLess x0.toList x1.toList with
        | true =>
          have HD := Lib.hid (HS.out hd)
          clear hd
          go_wp2_with fail
          go_roundw
          case rel => exact ⟨k + 1, _, by go_num, .inr (by omega), HD.out, by first | exact World.drewN_drewN _ _ _ | rfl⟩
          case measure => simp [intOf]; omega
        | false =>
          have HD := Lib.hid (HN.out hd)
          clear hd
          go_wp2_with fail
          go_ret
          exact ⟨by rw [HD.out]; rfl, _, by first | exact World.drewN_drewN _ _ _ | rfl⟩
    · have HA : Hid (risesB bL L = true) := Lib.hid (hR.all (by omega))
      have hki : ¬ ((k : Int) + 1) < (L.length : Int) := by omega
      clear hR
      go_wp2_with fail
      go_ret
      exact ⟨by rw [HA.out]; rfl, q, rfl⟩
/-- Up to k a list's elements may be, and it rises. -/
def OkTo {α : Type} (ok : α → Bool) (lt : α → α → Bool) (L : List α) (k : Nat) : Prop := (∀ (i : Nat) (x : α), i < k → L[i]? = some x → ok x = true) ∧ (∀ (i : Nat) (a b : α), i + 1 < k → L[i]? = some a → L[i + 1]? = some b → lt a b = true)
theorem OkTo.zero {α : Type} (ok : α → Bool) (lt : α → α → Bool) (L : List α) : OkTo ok lt L 0 := ⟨fun i x h => absurd h (Nat.not_lt_zero _), fun i a b h => absurd h (Nat.not_lt_zero _)⟩
theorem OkTo.one {α : Type} {ok : α → Bool} {lt : α → α → Bool} {L : List α} {x : α} (hx : L[0]? = some x) (h : ok x = true) : OkTo ok lt L 1 :=
  ⟨fun i y hi hy => by
    have : i = 0 := by omega
    subst this
    rw [hx] at hy
    injection hy with hy
    rw [← hy]; exact h, fun i a b hi => by omega⟩
theorem OkTo.succ {α : Type} {ok : α → Bool} {lt : α → α → Bool} {L : List α} {j : Nat} {x y : α} (h0 : OkTo ok lt L (j + 1)) (hy : L[j]? = some y) (hx : L[j + 1]? = some x) (h : ok x = true) (h1 : lt y x = true) : OkTo ok lt L (j + 1 + 1) :=
  ⟨fun i z hi hz => by
    by_cases e : i = j + 1
    · subst e
      rw [hx] at hz
      injection hz with hz
      rw [← hz]; exact h
    · exact h0.1 i z (by omega) hz, fun i a b hi ha hb => by
    by_cases e : i = j
    · subst e
      rw [hy] at ha
      rw [hx] at hb
      injection ha with ha
      injection hb with hb
      rw [← ha, ← hb]; exact h1
    · exact h0.2 i a b (by omega) ha hb⟩
theorem OkTo.all {α : Type} {ok : α → Bool} {lt : α → α → Bool} {L : List α} {k : Nat} (h : OkTo ok lt L k) (hk : L.length ≤ k) : L.all ok = true ∧ risesB lt L = true := by
  constructor
  · rw [List.all_eq_true]
    intro x hx
    obtain ⟨i, hi⟩ := List.getElem?_of_mem hx
    exact h.1 i x (by have := (List.getElem?_eq_some_iff.1 hi).1; omega) hi
  · rw [rises_iff]
    intro i a b ha hb
    exact h.2 i a b (by have := (List.getElem?_eq_some_iff.1 hb).1; omega) ha hb
theorem not_ok {α : Type} {ok : α → Bool} {L : List α} {k : Nat} {x : α} (hx : L[k]? = some x) (h : ok x = false) : L.all ok = false := by
  rw [← Bool.not_eq_true, List.all_eq_true]
  intro hh
  rw [hh x (List.mem_of_getElem? hx)] at h
  cases h
theorem chk_S {S : List SX} {T : List TX} (h : mayS S = false) : chkE S T = 1 := by unfold chkE; rw [h]; rfl
theorem chk_T {S : List SX} {T : List TX} (h : mayT T = false) : chkE S T = 1 := by unfold chkE; rw [h]; simp
theorem chk_both {S : List SX} {T : List TX} (h : mayS S = true) (h2 : mayT T = true) : chkE S T = 0 := by unfold chkE; rw [h, h2]; rfl
theorem mayS_all {S : List SX} (h : S.all okS = false) : mayS S = false := by unfold mayS; rw [h]; simp
theorem mayS_ris {S : List SX} (h : risesB sL S = false) : mayS S = false := by unfold mayS; rw [h]; simp
theorem mayT_all {S : List TX} (h : S.all okT = false) : mayT S = false := by unfold mayT; rw [h]; simp
theorem mayT_ris {S : List TX} (h : risesB tL S = false) : mayT S = false := by unfold mayT; rw [h]; simp
theorem mayS_yes {S : List SX} (hl : S.length ≤ 20) (h : S.all okS = true ∧ risesB sL S = true) : mayS S = true := by unfold mayS; rw [h.1, h.2]; simp [hl]
theorem mayT_yes {S : List TX} (hl : S.length ≤ 20) (h : S.all okT = true ∧ risesB tL S = true) : mayT S = true := by unfold mayT; rw [h.1, h.2]; simp [hl]
end Go.Proofs.YtlokhhjhckiloaaGreat
/- assign: the document's Check, by a contract: the walk. No condition. -/
namespace Go.Proofs.YtlokhhjhckiloaaGreat
open Go.RowKit
set_option linter.unusedVariables false
/-- Members' box, and the member ahead. -/
theorem sub_later {w w' : World} {b bx i : Nat} {u v y : Value} (h : w.cell? ⟨bx, 0, none⟩ = some u ∧ w.cell? ⟨bx, 1, none⟩ = some v ∧ w.cell? ⟨b, i, none⟩ = some y ∧ bx < w.heap.size ∧ b < w.heap.size) (hb : Below w.heap.size w w') :
    w'.cell? ⟨bx, 0, none⟩ = some u ∧ w'.cell? ⟨bx, 1, none⟩ = some v ∧ w'.cell? ⟨b, i, none⟩ = some y ∧ bx < w'.heap.size ∧ b < w'.heap.size :=
  ⟨(hb.cell (p := ⟨bx, 0, none⟩) h.2.2.2.1).trans h.1, (hb.cell (p := ⟨bx, 1, none⟩) h.2.2.2.1).trans h.2.1, (hb.cell (p := ⟨b, i, none⟩) h.2.2.2.2).trans h.2.2.1, Nat.lt_of_lt_of_le h.2.2.2.1 hb.size, Nat.lt_of_lt_of_le h.2.2.2.2 hb.size⟩
theorem box2_later {w w' : World} {bx : Nat} {u v : Value} (h : w.cell? ⟨bx, 0, none⟩ = some u ∧ w.cell? ⟨bx, 1, none⟩ = some v ∧ bx < w.heap.size) (hb : Below w.heap.size w w') :
    w'.cell? ⟨bx, 0, none⟩ = some u ∧ w'.cell? ⟨bx, 1, none⟩ = some v ∧ bx < w'.heap.size :=
  ⟨(hb.cell (p := ⟨bx, 0, none⟩) h.2.2).trans h.1, (hb.cell (p := ⟨bx, 1, none⟩) h.2.2).trans h.2.1, Nat.lt_of_lt_of_le h.2.2 hb.size⟩
theorem cell3_later {w w' : World} {b i j k : Nat} {u v x : Value} (h : w.cell? ⟨b, i, none⟩ = some u ∧ w.cell? ⟨b, j, none⟩ = some v ∧ w.cell? ⟨b, k, none⟩ = some x ∧ b < w.heap.size) (hb : Below w.heap.size w w') : w'.cell? ⟨b, i, none⟩ = some u ∧ w'.cell? ⟨b, j, none⟩ = some v ∧ w'.cell? ⟨b, k, none⟩ = some x ∧ b < w'.heap.size :=
  ⟨(hb.cell (p := ⟨b, i, none⟩) h.2.2.2).trans h.1, (hb.cell (p := ⟨b, j, none⟩) h.2.2.2).trans h.2.1, (hb.cell (p := ⟨b, k, none⟩) h.2.2.2).trans h.2.2.1, Nat.lt_of_lt_of_le h.2.2.2 hb.size⟩
theorem okS_parts {m : Int} {T : List ByteArray} {A : Option Addr} {c : Nat} (h1 : ¬ m < 0) (h2 : ¬ 1073741824 < m) (h3 : ¬ 20 < T.length) (h4 : risesB bL T = true) : okS (m, T, A, c) = true := by
  unfold okS
  simp only
  rw [decide_eq_true (show 0 ≤ m by omega), decide_eq_true (show m ≤ 1073741824 by omega), decide_eq_true (show T.length ≤ 20 by omega), h4]
  rfl
theorem okS_not {m : Int} {T : List ByteArray} {A : Option Addr} {c : Nat} (h : m < 0 ∨ 1073741824 < m ∨ 20 < T.length ∨ risesB bL T = false) : okS (m, T, A, c) = false := by
  cases hh : okS (m, T, A, c) with
  | false => rfl
  | true =>
    unfold okS at hh
    simp only [Bool.and_eq_true, decide_eq_true_eq] at hh
    obtain ⟨⟨⟨q1, q2⟩, q3⟩, q4⟩ := hh
    rcases h with h | h | h | h
    · omega
    · omega
    · omega
    · rw [q4] at h; cases h
set_option maxHeartbeats 16000000 in
set_option maxRecDepth 100000 in
theorem rcheck_c (S : List SX) (A : Option Addr) (c : Nat) (T : List TX) (A2 : Option Addr) (c2 : Nat) (W : World) (hS : SbIn W A S) (hT : TpIn W A2 T) (hl : S.length ≤ 140737488351232) (hl2 : T.length ≤ 140737488351232) (hz : ∀ x ∈ S, x.2.1.length ≤ 140737488351232) :
    Calls Tryz.prog 116 #[.slice A S.length c, .slice A2 T.length c2] W (Good W (.int .i64 (chkE S T))) := by
  by_cases h1 : 20 < S.length
  · have h1' : (20 : Int) < (S.length : Int) := by omega
    rw [chk_S (T := T) (show mayS S = false by unfold mayS; rw [decide_eq_false (by omega)]; rfl)]
    go_enter Tryz.func116, Tryz.ntmps116
    go_wp2_with fail
    go_ret
    exact ⟨rfl, Below.refl _ _⟩
  have h1' : ¬ (20 : Int) < (S.length : Int) := by omega
  by_cases h2 : 20 < T.length
  · have h2' : (20 : Int) < (T.length : Int) := by omega
    rw [chk_T (S := S) (show mayT T = false by unfold mayT; rw [decide_eq_false (by omega)]; rfl)]
    go_enter Tryz.func116, Tryz.ntmps116
    go_wp2_with fail
    go_ret
    exact ⟨rfl, Below.refl _ _⟩
  have h2' : ¬ (20 : Int) < (T.length : Int) := by omega
  have HS := Lib.hid hS
  have HT := Lib.hid hT
  clear hS hT
  have HNS := Lib.hid (fun h => chk_S (S := S) (T := T) (mayS_all h))
  have HNR := Lib.hid (fun h => chk_S (S := S) (T := T) (mayS_ris h))
  have HNT := Lib.hid (fun h => chk_T (S := S) (T := T) (mayT_all h))
  have HNU := Lib.hid (fun h => chk_T (S := S) (T := T) (mayT_ris h))
  have HYY := Lib.hid (fun h h' => chk_both (S := S) (T := T) (mayS_yes (by omega) h) (mayT_yes (by omega) h'))
  go_enter Tryz.func116, Tryz.ntmps116
  go_wp2_with fail
  go_loopw [5] (fun j wr => ∃ k : Nat, j = .int .i64 k ∧ k ≤ S.length ∧ OkTo okS sL S k ∧ Below W.heap.size W wr) (fun j _ => S.length - (intOf j).toNat)
  case atStart => exact ⟨0, rfl, Nat.zero_le _, OkTo.zero _ _ _, Below.refl _ _⟩
  case round =>
    obtain ⟨k, rfl, hkl, hO, hB⟩ := hrel
    have HB := Lib.hid hB
    by_cases hk : k < S.length
    · have hki : (k : Int) < (S.length : Int) := by omega
      have hk00 : (0 : Int) ≤ (k : Int) := by omega
      have hx : S[k]? = some S[k] := List.getElem?_eq_getElem hk
      have hzk := hz _ (List.getElem_mem hk)
      have hL := HS.out.below HB.out
      obtain ⟨b, off, rfl, hlt, hcs⟩ := hL (by omega)
      obtain ⟨⟨y0, y1⟩, y2⟩ := hcs k _ hx
      have HX := Lib.hid hx
      have HO := Lib.hid hO
      have HCS := Lib.hid hcs
      clear hx hO hcs hB hL HS
      generalize S[k] = x at *
      obtain ⟨m, U, A', c'⟩ := x
      simp only at y0 y1 y2 hzk
      have hBt : Below wr.heap.size wr (wr.alloc (.cells #[.int .i64 m, .slice A' U.length c'] 142)) := (Below.refl _ _).alloc (Nat.le_refl _) _
      have HBT := Lib.hid (HB.out.trans (hBt.mono HB.out.size))
      have cr := fun n => rrise_c U A' c' ((wr.alloc (.cells #[.int .i64 m, .slice A' U.length c'] 142)).drewN n) (fun hp => (y2.below hBt) hp) hzk
      clear hBt y2
      have HNK : Hid ((m < 0 ∨ 1073741824 < m ∨ 20 < U.length ∨ risesB bL U = false) → chkE S T = 1) := Lib.hid (fun h => HNS.out (not_ok HX.out (okS_not h)))
      by_cases m1 : m < 0
      · skip
        have HC := Lib.hid (HNK.out (.inl m1))
        go_wp2_with fail
        go_quiet (fail)
        all_goals
          go_wp2_with fail
          go_ret
          exact ⟨by rw [HC.out]; rfl, below_drewN HBT.out _⟩
      have d1 : decide (m < 0) = false := decide_eq_false m1
      by_cases m2 : 1073741824 < m
      · skip
        have HC := Lib.hid (HNK.out (.inr (.inl m2)))
        go_wp2_with fail
        go_quiet (fail)
        all_goals
          go_wp2_with fail
          go_ret
          exact ⟨by rw [HC.out]; rfl, below_drewN HBT.out _⟩
      have d2 : decide (1073741824 < m) = false := decide_eq_false m2
      by_cases m3 : 20 < U.length
      · have m3i : (20 : Int) < (U.length : Int) := by omega
        have HC := Lib.hid (HNK.out (.inr (.inr (.inl m3))))
        go_wp2_with fail
        go_quiet (fail)
        all_goals
          go_wp2_with fail
          go_ret
          exact ⟨by rw [HC.out]; rfl, below_drewN HBT.out _⟩
      have d3 : decide ((20 : Int) < (U.length : Int)) = false := decide_eq_false (by omega)
      cases hr : risesB bL U with
      | false =>
        rw [hr] at cr
        have HC := Lib.hid (HNK.out (.inr (.inr (.inr hr))))
        clear hr
        go_wp2_with fail
        go_quiet (first | (go_at_call 130; exact Calls.quiet_of (cr _)))
        all_goals
          go_wp2_with fail
          go_ret
          exact ⟨by rw [HC.out]; rfl, below_drewN HBT.out _⟩
      | true =>
        rw [hr] at cr
        have HK := Lib.hid (okS_parts (A := A') (c := c') m1 m2 m3 hr)
        clear hr
        by_cases hk0 : k = 0
        · have hkn : decide ((0 : Int) < (k : Int)) = false := decide_eq_false (by omega)
          have hkp : decide (0 < k) = false := decide_eq_false (by omega)
          have HO1 : Hid (OkTo okS sL S (k + 1)) := Lib.hid (by subst hk0; exact OkTo.one HX.out HK.out)
          clear hk0
          go_wp2_with fail
          go_quiet (first | (go_at_call 130; exact Calls.quiet_of (cr _)))
          all_goals
            go_wp2_with fail
            go_roundw
            case rel => exact ⟨k + 1, by go_num, hk, HO1.out, below_drewN HBT.out _⟩
            case measure => simp [intOf]; omega
        · obtain ⟨j, hj⟩ : ∃ j, k = j + 1 := ⟨k - 1, by omega⟩
          have hkn : (0 : Int) < (k : Int) := by omega
          have hkp : 0 < k := by omega
          have hjx : S[j]? = some (S[j]'(by omega)) := List.getElem?_eq_getElem (by omega)
          obtain ⟨⟨z0, _⟩, _⟩ := HCS.out j _ hjx
          have HJX := Lib.hid hjx
          clear hjx
          generalize (S[j]'(by omega)) = y at *
          obtain ⟨m0, U0, A0, c0⟩ := y
          simp only at z0
          have hw : IntKind.i64.wrap ((k : Int) - 1) = (j : Int) := by rw [IntKind.wrap_i64]; omega
          have hj0 : (0 : Int) ≤ (j : Int) := by omega
          have hj1 : (j : Int) < (S.length : Int) := by omega
          by_cases hm : m0 < m
          · have hm' : decide (m ≤ m0) = false := decide_eq_false (by omega)
            have HO1 : Hid (OkTo okS sL S (k + 1)) := Lib.hid (by subst hj; exact OkTo.succ HO.out HJX.out HX.out HK.out (decide_eq_true hm))
            clear hj hk0
            go_wp2_with fail
            go_quiet (first | (go_at_call 130; exact Calls.quiet_of (cr _)))
            all_goals
              go_wp2_with fail
              go_roundw
              case rel => exact ⟨k + 1, by go_num, hk, HO1.out, below_drewN HBT.out _⟩
              case measure => simp [intOf]; omega
          · have hm' : m ≤ m0 := by omega
            have HC := Lib.hid (HNR.out (rises_not HJX.out (by rw [← hj]; exact HX.out) (decide_eq_false hm)))
            clear hj hk0
            go_wp2_with fail
            go_quiet (first | (go_at_call 130; exact Calls.quiet_of (cr _)))
            all_goals
              go_wp2_with fail
              go_ret
              exact ⟨by rw [HC.out]; rfl, below_drewN HBT.out _⟩
    · have HAS := Lib.hid (hO.all (by omega))
      have hki : ¬ (k : Int) < (S.length : Int) := by omega
      have HYT := Lib.hid (fun h => HYY.out HAS.out h)
      clear HYY HAS hO hB HS HNS HNR
      go_wp2_with fail
      go_loopw [7] (fun j wr => ∃ k : Nat, j = .int .i64 k ∧ k ≤ T.length ∧ OkTo okT tL T k ∧ Below W.heap.size W wr) (fun j _ => T.length - (intOf j).toNat)
      case atStart => exact ⟨0, rfl, Nat.zero_le _, OkTo.zero _ _ _, HB.out⟩
      case round =>
        clear HB
        obtain ⟨k, rfl, hkl, hO, hB⟩ := hrel
        have HB := Lib.hid hB
        by_cases hk : k < T.length
        · have hki : (k : Int) < (T.length : Int) := by omega
          have hk00 : (0 : Int) ≤ (k : Int) := by omega
          have hx : T[k]? = some T[k] := List.getElem?_eq_getElem hk
          have hL := HT.out.below HB.out
          obtain ⟨b, off, rfl, hlt, hcs⟩ := hL (by omega)
          obtain ⟨y0, y1⟩ := hcs k _ hx
          have HX := Lib.hid hx
          have HO := Lib.hid hO
          have HCS := Lib.hid hcs
          clear hx hO hcs hB hL HT
          generalize T[k] = x at *
          obtain ⟨s, n⟩ := x
          simp only at y0 y1
          by_cases n1 : n < 1
          · have HC := Lib.hid (HNT.out (not_ok HX.out (show okT (s, n) = false by unfold okT; rw [decide_eq_false (by omega)]; rfl)))
            go_wp2_with fail
            go_quiet (fail)
            all_goals
              go_wp2_with fail
              go_ret
              exact ⟨by rw [HC.out]; rfl, below_drewN HB.out _⟩
          have d1 : decide (n < 1) = false := decide_eq_false n1
          by_cases n2 : 16 < n
          · have HC := Lib.hid (HNT.out (not_ok HX.out (show okT (s, n) = false by unfold okT; rw [decide_eq_false (show ¬ n ≤ 16 by omega)]; simp)))
            go_wp2_with fail
            go_quiet (fail)
            all_goals
              go_wp2_with fail
              go_ret
              exact ⟨by rw [HC.out]; rfl, below_drewN HB.out _⟩
          have d2 : decide (16 < n) = false := decide_eq_false n2
          have HK : Hid (okT (s, n) = true) := Lib.hid (okT_iff.2 ⟨by simp only; omega, by simp only; omega⟩)
          by_cases hk0 : k = 0
          · have hkn : decide ((0 : Int) < (k : Int)) = false := decide_eq_false (by omega)
            have hkp : decide (0 < k) = false := decide_eq_false (by omega)
            have HO1 : Hid (OkTo okT tL T (k + 1)) := Lib.hid (by subst hk0; exact OkTo.one HX.out HK.out)
            clear hk0
            go_wp2_with fail
            go_quiet (fail)
            all_goals
              go_wp2_with fail
              go_roundw
              case rel => exact ⟨k + 1, by go_num, hk, HO1.out, below_drewN HB.out _⟩
              case measure => simp [intOf]; omega
          · obtain ⟨j, hj⟩ : ∃ j, k = j + 1 := ⟨k - 1, by omega⟩
            have hkn : (0 : Int) < (k : Int) := by omega
            have hkp : 0 < k := by omega
            have hjx : T[j]? = some (T[j]'(by omega)) := List.getElem?_eq_getElem (by omega)
            obtain ⟨z0, _⟩ := HCS.out j _ hjx
            have HJX := Lib.hid hjx
            clear hjx
            generalize (T[j]'(by omega)) = y at *
            obtain ⟨s0, n0⟩ := y
            simp only at z0
            have hw : IntKind.i64.wrap ((k : Int) - 1) = (j : Int) := by rw [IntKind.wrap_i64]; omega
            have hj0 : (0 : Int) ≤ (j : Int) := by omega
            have hj1 : (j : Int) < (T.length : Int) := by omega
            have HOY : Hid (Op.bytesLess s0.toList s.toList = true → OkTo okT tL T (k + 1)) := Lib.hid (fun h => by subst hj; exact OkTo.succ HO.out HJX.out HX.out HK.out h)
            have HON : Hid (Op.bytesLess s0.toList s.toList = false → chkE S T = 1) := Lib.hid (fun h => HNU.out (rises_not HJX.out (by rw [← hj]; exact HX.out) (show tL (s0, n0) (s, n) = false from h)))
            clear hj hk0
            go_wp2_with fail
            go_quiet (fail)
            all_goals
              cases hd : Op.bytesLess s0.toList s.toList with
              | true =>
                have HD := Lib.hid (HOY.out hd)
                clear hd
                go_wp2_with fail
                go_roundw
                case rel => exact ⟨k + 1, by go_num, hk, HD.out, below_drewN HB.out _⟩
                case measure => simp [intOf]; omega
              | false =>
                have HD := Lib.hid (HON.out hd)
                clear hd
                go_wp2_with fail
                go_ret
                exact ⟨by rw [HD.out]; rfl, below_drewN HB.out _⟩
        · have HAT := Lib.hid (HYT.out (hO.all (by omega)))
          have hki' : ¬ (k : Int) < (T.length : Int) := by omega
          clear hO hB
          go_wp2_with fail
          go_ret
          exact ⟨by rw [HAT.out]; rfl, HB.out⟩
end Go.Proofs.YtlokhhjhckiloaaGreat
/- assign: the document's Range, by a contract. No condition. -/
namespace Go.Proofs.YtlokhhjhckiloaaGreat
open Go.RowKit
set_option linter.unusedVariables false
section
variable {P : Program} {md : Region.Mode} {l : List Oper} {Q : Exit → Act → World → Prop} {S : World → Prop}
theorem takeW {i : Nat} {oi : Oper} {v : Value} {fuel : Nat} {listed : Array Bool} {a : Act} {w : World} (hi : l[i]? = some oi)
    (hs : Region.noSelect l.toArray = true) (hf : Region.free md l.toArray listed i = true) (hr : (Region.ready md l.toArray listed).contains i = true)
    (hQ : ∀ c a w, Q (.panic c) (a.put oi.dst v) w → Q (.panic c) a w) (hw : Region.wanted oi (yielded l.toArray a.tmps) = true) (hS : S w) (hy : ∀ w, S w → (execOp a.eval oi).run P w = .ok (.value v) w)
    (h : wpAnyH P md l.toArray Q S fuel (listed.setIfInBounds i true) (a.put oi.dst v) w) : wpAnyH P md l.toArray Q S (fuel + 1) listed a w :=
  wpAnyH_take (List.getElem?_toArray.trans hi) hs hf hr hQ (.inl ⟨hw, hy⟩) hS h
theorem takeU {i : Nat} {oi : Oper} {fuel : Nat} {listed : Array Bool} {a : Act} {w : World} (hi : l[i]? = some oi)
    (hs : Region.noSelect l.toArray = true) (hf : Region.free md l.toArray listed i = true) (hr : (Region.ready md l.toArray listed).contains i = true)
    (hQ : ∀ c a w, Q (.panic c) (a.put oi.dst undef) w → Q (.panic c) a w) (hw : Region.wanted oi (yielded l.toArray a.tmps) = false) (hS : S w)
    (h : wpAnyH P md l.toArray Q S fuel (listed.setIfInBounds i true) (a.put oi.dst undef) w) : wpAnyH P md l.toArray Q S (fuel + 1) listed a w :=
  wpAnyH_take (List.getElem?_toArray.trans hi) hs hf hr hQ (.inr ⟨hw, rfl⟩) hS h
theorem consL {i : Nat} {o : Oper} {rs : List Nat} {fuel : Nat} {listed : Array Bool} {a : Act} {w : World} (hi : l[i]? = some o) (hw : Region.wanted o (yielded l.toArray a.tmps) = true)
    (h : ∀ K' : Act → World → Prop, Shut (∀ a w, S w → (S w → wpAnyH P md l.toArray Q S fuel (listed.setIfInBounds i true) a w) → K' a w) → Oper.wp P o a w K' Q)
    (hs : AllReadyH P md l.toArray Q S fuel listed a w rs) : AllReadyH P md l.toArray Q S fuel listed a w (i :: rs) :=
  AllReadyH.cons (List.getElem?_toArray.trans hi) (fun K' hK => by rw [if_pos hw]; exact h K' hK) hs
end
theorem updD_twice (D : Nat → List TX) (m : Nat) (a b : List TX) : updD (updD D m a) m b = updD D m b := by
  funext k
  unfold updD
  split <;> rfl
theorem updD_self (D : Nat → List TX) (m : Nat) : updD D m (D m) = D := by
  funext k
  unfold updD
  split
  · subst_vars; rfl
  · rfl
/-- A partition put behind a member's. -/
theorem RgS.app {W w : World} {S : List SX} {g n c m : Nat} {D : Nat → List TX} {R : List (Int × Value)} {r : Int × Value} (h : RgS W S (.slice (some ⟨g, 0, none⟩) n c) D R w) (hm : R[m]? = some r) (s : ByteArray) (i : Int) (o : Obj) :
    ∀ (g2 cap2 : Nat) (w4 : World), w4.ownsRow W.heap.size 34 2 (.slice (some ⟨g2, 0, none⟩) ((D m).length + 1) cap2) ((D m).length + 1) (prtC (D m) ++ [.string s, .int .i64 i]) → (w.alloc o).drew.grownBy w4 r.2.ownBlock → (r.2.ownBlock = some g2 ∨ g2 = w.heap.size + 1) →
      w4.cell? ⟨g, m * 2 + 1, none⟩ = some r.2 ∧ w4.frozen? ⟨g, m * 2 + 1, none⟩ = false ∧
      (RgS W S (.slice (some ⟨g, 0, none⟩) n c) (updD D m (D m ++ [(s, i)])) (R.set m (r.1, .slice (some ⟨g2, 0, none⟩) ((D m).length + 1) cap2)) (w4.setCell ⟨g, m * 2 + 1, none⟩ (.slice (some ⟨g2, 0, none⟩) ((D m).length + 1) cap2)) ∧
        Off (fun k => k = g ∨ r.2.ownBlock = some k) w (w4.setCell ⟨g, m * 2 + 1, none⟩ (.slice (some ⟨g2, 0, none⟩) ((D m).length + 1) cap2)) ∧ Off (fun k => r.2.ownBlock = some k) w w4) := by
  intro g2 cap2 w4 hown hgrow hg
  have hb : Below w.heap.size w (w.alloc o).drew := ((Below.refl _ _).alloc (Nat.le_refl _) _).drew
  have h' := h.later hb
  have hrow1 := own_off h'.sh.row ((Off.refl (fun k => r.2.ownBlock = some k) (w.alloc o).drew).grown hgrow (fun k e _ => e)) (fun k hk hs => own_two h'.sh.row (h'.sh.parts m r hm) (by decide) k hk hs)
  have hRl : 0 < R.length := Nat.lt_of_le_of_lt (Nat.zero_le _) (List.getElem?_eq_some_iff.1 hm).1
  obtain ⟨hnR, g', e, _, hbg, _⟩ := h.sh.at_ hm
  subst hnR
  injection e with e
  injection e with e
  subst e
  have hgrow' : w.grownBy w4 r.2.ownBlock := ⟨hgrow.os, hgrow.tape, hgrow.output, Nat.le_trans hb.size hgrow.size, fun k hk hne => (hgrow.block k (Nat.lt_of_lt_of_le hk hb.size) hne).trans (hb.block k hk)⟩
  have o1 : Off (fun k => r.2.ownBlock = some k) w w4 := (Off.refl (fun k => r.2.ownBlock = some k) w).grown hgrow' (fun k e _ => e)
  refine ⟨?_, hrow1.frozenAt _, ⟨?_, ?_, ?_⟩, ?_, o1⟩
  · obtain ⟨g2', e2, _, _, _, hc2⟩ := own_in hrow1 hRl
    injection e2 with e2
    injection e2 with e2
    subst e2
    exact hc2 _ _ (shC_at hm).2
  · refine h'.sh.put hm hgrow (X := D m ++ [(s, i)]) (by rw [List.length_append, prtC_app]; exact hown) ?_
    rcases hg with hg | hg
    · exact .inl hg.symm
    · refine .inr ?_
      rw [hg]
      show some (w.heap.size + 1) = some (w.alloc o).heap.size
      simp
  · rw [map_set_same hm]; exact h.mem
  · refine (h.bel.trans (o1.below (B := W.heap.size) h.bel.size fun k hk => (own_blk (h.sh.parts m r hm) hk).1)).setCell (p := ⟨g, m * 2 + 1, none⟩) hbg _
  · exact (o1.mono fun k _ e => .inr e).set (p := ⟨g, m * 2 + 1, none⟩) (.inl (.inl rfl)) _
/-- Dealing under way, with the takers. -/
structure RrI (W : World) (S : List SX) (v : Value) (A3 : Option Addr) (c3 : Nat) (L : List Nat) (D : Nat → List TX) (R : List (Int × Value)) (w : World) : Prop where
  st : RgS W S v D R w
  tak : w.ownsRow W.heap.size 3 1 (.slice A3 L.length c3) L.length (intsC L)
theorem RrI.app {W w : World} {S : List SX} {A3 : Option Addr} {c3 : Nat} {L : List Nat} {g n c m : Nat} {D : Nat → List TX} {R : List (Int × Value)} {r : Int × Value} (h : RrI W S (.slice (some ⟨g, 0, none⟩) n c) A3 c3 L D R w) (hm : R[m]? = some r) {gt x : Nat} {hA : A3 = some ⟨gt, 0, none⟩} {mm : Nat} (hx : L[x]? = some mm) (s : ByteArray) (i : Int) (o : Obj) :
    ∀ (g2 cap2 : Nat) (w4 : World), w4.ownsRow W.heap.size 34 2 (.slice (some ⟨g2, 0, none⟩) ((D m).length + 1) cap2) ((D m).length + 1) (prtC (D m) ++ [.string s, .int .i64 i]) → (w.alloc o).drew.grownBy w4 r.2.ownBlock → (r.2.ownBlock = some g2 ∨ g2 = w.heap.size + 1) →
      w4.cell? ⟨g, m * 2 + 1, none⟩ = some r.2 ∧ w4.frozen? ⟨g, m * 2 + 1, none⟩ = false ∧ w4.cell? ⟨gt, x, none⟩ = some (.int .i64 mm) ∧ (w.alloc o).cell? ⟨gt, x, none⟩ = some (.int .i64 mm) ∧ (w.alloc o).cell? ⟨g, m * 2 + 1, none⟩ = some r.2 ∧ Hid (Below W.heap.size W w4 ∧ w4.ownsRow W.heap.size 3 1 (.slice A3 L.length c3) L.length (intsC L)) ∧
      Hid (RrI W S (.slice (some ⟨g, 0, none⟩) n c) A3 c3 L (updD D m (D m ++ [(s, i)])) (R.set m (r.1, .slice (some ⟨g2, 0, none⟩) ((D m).length + 1) cap2)) (w4.setCell ⟨g, m * 2 + 1, none⟩ (.slice (some ⟨g2, 0, none⟩) ((D m).length + 1) cap2))) := by
  intro g2 cap2 w4 h1 h2 h3
  obtain ⟨k1, k2, k3, k4, k5⟩ := h.st.app hm s i o g2 cap2 w4 h1 h2 h3
  have hb : Below w.heap.size w (w.alloc o) := (Below.refl _ _).alloc (Nat.le_refl _) _
  have t4 := own_off h.tak k5 (fun k hk hs => own_two h.tak (h.st.sh.parts m r hm) (by decide) k hk hs)
  obtain ⟨gt1, e1, _, v1⟩ := ints_at t4 hx
  obtain ⟨gt2, e2, _, v2⟩ := ints_at (own_below h.tak hb) hx
  rw [hA] at e1 e2
  injection e1 with e1
  injection e1 with e1
  injection e2 with e2
  injection e2 with e2
  subst e1
  subst e2
  have t5 := t4
  obtain ⟨_, _, ea, hga, _, _, va, _⟩ := h.st.sh.at_ hm
  injection ea with ea
  injection ea with ea
  subst ea
  refine ⟨k1, k2, v1, v2, (hb.cell (p := ⟨g, m * 2 + 1, none⟩) hga).trans va, Lib.hid ⟨h.st.bel.trans (k5.below (B := W.heap.size) h.st.bel.size fun k hk => (own_blk (h.st.sh.parts m r hm) hk).1), t4⟩, Lib.hid ⟨k3, own_off h.tak k4 ?_⟩⟩
  rintro k hk (hs | hs)
  · exact own_two h.tak h.st.sh.row (by decide) k hk (by rw [hs]; rfl)
  · exact own_two h.tak (h.st.sh.parts m r hm) (by decide) k hk hs
theorem rrange_bad (S : List SX) (A : Option Addr) (c : Nat) (T : List TX) (A2 : Option Addr) (c2 : Nat) (W : World) (hS : SbIn W A S) (hT : TpIn W A2 T) (hl : S.length ≤ 140737488351232) (hl2 : T.length ≤ 140737488351232) (hz : ∀ x ∈ S, x.2.1.length ≤ 140737488351232) (hk : chkE S T = 1) :
    Calls Tryz.prog 96 #[.slice A S.length c, .slice A2 T.length c2] W (Good W (.tuple #[.slice none 0 0, .int .i64 1])) := by
  have c1 := rcheck_c S A c T A2 c2 W hS hT hl hl2 hz
  rw [hk] at c1
  clear hS hT hz
  go_enter Tryz.func96, Tryz.ntmps96
  go_wp2_with fail
  with_reducible refine c1.mono ?_
  rintro e w1 ⟨rfl, hb1⟩
  go_wp2_with fail
  go_ret2
  exact ⟨rfl, hb1⟩
theorem rround_bad (S : List SX) (A : Option Addr) (c : Nat) (T : List TX) (A2 : Option Addr) (c2 : Nat) (W : World) (hS : SbIn W A S) (hT : TpIn W A2 T) (hl : S.length ≤ 140737488351232) (hl2 : T.length ≤ 140737488351232) (hz : ∀ x ∈ S, x.2.1.length ≤ 140737488351232) (hk : chkE S T = 1) :
    Calls Tryz.prog 97 #[.slice A S.length c, .slice A2 T.length c2] W (Good W (.tuple #[.slice none 0 0, .int .i64 1])) := by
  have c1 := rcheck_c S A c T A2 c2 W hS hT hl hl2 hz
  rw [hk] at c1
  clear hS hT hz
  go_enter Tryz.func97, Tryz.ntmps97
  go_wp2_with fail
  with_reducible refine c1.mono ?_
  rintro e w1 ⟨rfl, hb1⟩
  go_wp2_with fail
  go_ret2
  exact ⟨rfl, hb1⟩
theorem chunk_zero (s : ByteArray) (n len x : Nat) : (chunkN s n len x).take 0 = [] := rfl
theorem chunk_succ {s : ByteArray} {n len x y : Nat} (hx : x < len) (hy : y < rowN n len x) : (chunkN s n len x).take (y + 1) = (chunkN s n len x).take y ++ [(s, ((offN n len x + y : Nat) : Int))] := by
  have hg : (chunkN s n len x)[y]? = some (s, ((offN n len x + y : Nat) : Int)) := by
    have := offN_le (n := n) hx
    unfold chunkN prtsG
    rw [List.getElem?_take, if_pos hy, List.getElem?_drop, List.getElem?_map, List.getElem?_range (by omega)]
    rfl
  rw [List.take_add_one, hg]
  rfl
theorem chunk_all {s : ByteArray} {n len x : Nat} (hx : x < len) : (chunkN s n len x).take (rowN n len x) = chunkN s n len x := List.take_of_length_le (by rw [chunkN_len hx]; exact Nat.le_refl _)
end Go.Proofs.YtlokhhjhckiloaaGreat
/- assign: one by one, round about: who is next. Plain laws. No condition. -/
namespace Go.Proofs.YtlokhhjhckiloaaGreat
open Go.RowKit
set_option linter.unusedVariables false
theorem takersG_sorted (S : List SX) (s : ByteArray) (k : Nat) : (takersG S s k).Pairwise (· < ·) := by
  unfold takersG
  exact List.Pairwise.filter _ List.pairwise_lt_range
theorem find_first {L : List Nat} (hs : L.Pairwise (· < ·)) {m : Nat} (hm : m ∈ L) {last : Int} (h1 : last < (m : Int)) (h2 : ∀ t ∈ L, last < (t : Int) → m ≤ t) : L.find? (fun (t : Nat) => decide (last < (t : Int))) = some m := by
  induction L with
  | nil => cases hm
  | cons a L ih =>
    rw [List.pairwise_cons] at hs
    rw [List.find?_cons]
    by_cases ha : last < (a : Int)
    · rw [decide_eq_true ha]
      have := h2 a (by simp) ha
      rcases List.mem_cons.1 hm with rfl | hm
      · rfl
      · have := hs.1 m hm
        omega
    · rw [decide_eq_false ha]
      rcases List.mem_cons.1 hm with rfl | hm
      · exact absurd h1 ha
      · exact ih hs.2 hm (fun t ht => h2 t (by simp [ht]))
theorem head_first {L : List Nat} (hs : L.Pairwise (· < ·)) {m : Nat} (hm : m ∈ L) (h2 : ∀ t ∈ L, m ≤ t) : L.headD 0 = m := by
  cases L with
  | nil => cases hm
  | cons a L =>
    rw [List.pairwise_cons] at hs
    show a = m
    have := h2 a (by simp)
    rcases List.mem_cons.1 hm with rfl | hm
    · rfl
    · have := hs.1 m hm
      omega
/-- Who was last, as the document counts. -/
def lastOf (len : Nat) (last : Int) : Int := if last = -1 then (len : Int) - 1 else last
theorem lastOf_nat {len : Nat} {last : Int} (hl : 0 < len) (h : last = -1 ∨ (0 ≤ last ∧ last < (len : Int))) : ∃ l : Nat, lastOf len last = (l : Int) ∧ l < len ∧ ((last = -1 ∧ l + 1 = len) ∨ last = (l : Int)) := by
  unfold lastOf
  rcases h with rfl | ⟨h1, h2⟩
  · exact ⟨len - 1, by rw [if_pos rfl]; omega, by omega, .inl ⟨rfl, by omega⟩⟩
  · exact ⟨last.toNat, by rw [if_neg (by omega)]; omega, by omega, .inr (by omega)⟩
theorem next_is {L : List Nat} {len l k : Nat} {last : Int} (hs : L.Pairwise (· < ·)) (hL : ∀ t ∈ L, t < len) (hl : l < len) (hll : (last = -1 ∧ l + 1 = len) ∨ last = (l : Int)) (hk1 : 1 ≤ k) (hk : k ≤ len) (hm : (l + k) % len ∈ L) (hn : ∀ j, 1 ≤ j → j < k → (l + j) % len ∉ L) :
    behG L last = (l + k) % len := by
  have hmod : ∀ j, j ≤ len → (l + j < len → (l + j) % len = l + j) ∧ (len ≤ l + j → (l + j) % len = l + j - len) := fun j hj => ⟨fun h => Nat.mod_eq_of_lt h, fun h => by rw [Nat.mod_eq_sub_mod h]; exact Nat.mod_eq_of_lt (by omega)⟩
  unfold behG
  by_cases hA : l + k < len
  · rw [(hmod k hk).1 hA] at hm ⊢
    have hlast : last = (l : Int) := by rcases hll with ⟨_, h⟩ | h <;> omega
    rw [find_first hs hm (by omega) (fun t ht h1 => ?_)]
    · rfl
    · by_cases hlt : t < l + k
      · exact absurd ht (by
          have := hn (t - l) (by omega) (by omega)
          rwa [(hmod (t - l) (by omega)).1 (by omega), show l + (t - l) = t by omega] at this)
      · omega
  · have hB : len ≤ l + k := by omega
    rw [(hmod k hk).2 hB] at hm ⊢
    have hmin : ∀ t ∈ L, t < len → t < l + 1 → l + k - len ≤ t := fun t ht h1 h2 => by
      by_cases hlt : t < l + k - len
      · exact absurd ht (by
          have := hn (t + len - l) (by omega) (by omega)
          rwa [(hmod (t + len - l) (by omega)).2 (by omega), show l + (t + len - l) - len = t by omega] at this)
      · omega
    rcases hll with ⟨rfl, h⟩ | rfl
    · rw [find_first hs hm (by omega) (fun t ht _ => hmin t ht (hL t ht) (by have := hL t ht; omega))]
      rfl
    · have hup : ∀ t ∈ L, ¬ (l < t) := fun t ht h1 => by
        have h3 := hL t ht
        have := hn (t - l) (by omega) (by omega)
        rw [(hmod (t - l) (by omega)).1 (by omega), show l + (t - l) = t by omega] at this
        exact this ht
      have hnone : L.find? (fun (t : Nat) => decide ((l : Int) < (t : Int))) = none := by
        rw [List.find?_eq_none]
        intro t ht
        have := hup t ht
        simp only [decide_eq_true_eq]
        omega
      rw [hnone]
      show L.headD 0 = _
      exact head_first hs hm fun t ht => hmin t ht (hL t ht) (by have := hup t ht; omega)
theorem some_is {L : List Nat} {len l : Nat} (hL : ∀ t ∈ L, t < len) (hl : l < len) (hn : ∀ j, 1 ≤ j → j ≤ len → (l + j) % len ∉ L) : L.length = 0 := by
  cases L with
  | nil => rfl
  | cons t L =>
    exfalso
    have h1 := hL t (by simp)
    by_cases h : l < t
    · have := hn (t - l) (by omega) (by omega)
      rw [show l + (t - l) = t by omega, Nat.mod_eq_of_lt h1] at this
      exact this (by simp)
    · have := hn (t + len - l) (by omega) (by omega)
      rw [show l + (t + len - l) = t + len by omega, Nat.add_mod_right, Nat.mod_eq_of_lt h1] at this
      exact this (by simp)
/-- So many of a topic's partitions dealt, if there is a taker. -/
def stP (L : List Nat) (s : ByteArray) (st : (Nat → List TX) × Int) (p : Nat) : (Nat → List TX) × Int := if L.length = 0 then st else dealP L s st p
theorem stP_zero (L : List Nat) (s : ByteArray) (st : (Nat → List TX) × Int) : stP L s st 0 = st := by unfold stP; split <;> rfl
theorem stP_none {L : List Nat} (h : L.length = 0) (s : ByteArray) (st : (Nat → List TX) × Int) (p : Nat) : stP L s st p = st := by unfold stP; rw [if_pos h]
theorem stP_some {L : List Nat} (h : 0 < L.length) (s : ByteArray) (st : (Nat → List TX) × Int) (p : Nat) : stP L s st (p + 1) = (updD (stP L s st p).1 (behG L (stP L s st p).2) ((stP L s st p).1 (behG L (stP L s st p).2) ++ [(s, (p : Int))]), (behG L (stP L s st p).2 : Int)) := by
  unfold stP
  rw [if_neg (by omega), if_neg (by omega)]
  rfl
theorem stP_len {L : List Nat} {s : ByteArray} {st : (Nat → List TX) × Int} (p m : Nat) : ((stP L s st p).1 m).length ≤ (st.1 m).length + p := by
  unfold stP
  split
  · omega
  · exact dealP_len p m
theorem stepO_stP (S : List SX) (st : (Nat → List TX) × Int) (s : ByteArray) (n : Nat) : stepO S st (s, (n : Int)) = stP (takersG S s S.length) s st n := rfl
end Go.Proofs.YtlokhhjhckiloaaGreat
/- assign: the document's Round, by a contract: the walk. No condition. -/
namespace Go.Proofs.YtlokhhjhckiloaaGreat
open Go.RowKit
set_option linter.unusedVariables false
theorem sub3_later {w w' : World} {b b2 i j k : Nat} {u v x : Value} (h : w.cell? ⟨b, i, none⟩ = some u ∧ w.cell? ⟨b, j, none⟩ = some v ∧ w.cell? ⟨b2, k, none⟩ = some x ∧ b < w.heap.size ∧ b2 < w.heap.size) (hb : Below w.heap.size w w') : w'.cell? ⟨b, i, none⟩ = some u ∧ w'.cell? ⟨b, j, none⟩ = some v ∧ w'.cell? ⟨b2, k, none⟩ = some x ∧ b < w'.heap.size ∧ b2 < w'.heap.size :=
  ⟨(hb.cell (p := ⟨b, i, none⟩) h.2.2.2.1).trans h.1, (hb.cell (p := ⟨b, j, none⟩) h.2.2.2.1).trans h.2.1, (hb.cell (p := ⟨b2, k, none⟩) h.2.2.2.2).trans h.2.2.1, Nat.lt_of_lt_of_le h.2.2.2.1 hb.size, Nat.lt_of_lt_of_le h.2.2.2.2 hb.size⟩
set_option maxHeartbeats 32000000 in
set_option maxRecDepth 100000 in
theorem rround_c (S : List SX) (A : Option Addr) (c : Nat) (T : List TX) (A2 : Option Addr) (c2 : Nat) (W : World) (hS : SbIn W A S) (hT : TpIn W A2 T) (hz : ∀ x ∈ S, x.2.1.length ≤ 140737488351232) (hk : chkE S T = 0) :
    Calls Tryz.prog 97 #[.slice A S.length c, .slice A2 T.length c2] W (GotSh W S (roundD S T).1) := by
  obtain ⟨hmS, hmT⟩ := chk_ok hk
  obtain ⟨hl, hok, _⟩ := mayS_iff.1 hmS
  obtain ⟨hl2, hokT, _⟩ := mayT_iff.1 hmT
  have c1 := rcheck_c S A c T A2 c2 W hS hT (by omega) (by omega) hz
  rw [hk] at c1
  have c3 := fun w (h : SbIn w A S) => rempty_c S A c w h (by omega)
  have HS := Lib.hid hS
  have HT := Lib.hid hT
  have hll : IntKind.i64.wrap ((S.length : Int) - 1) = lastOf S.length (-1) := by rw [IntKind.wrap_i64]; unfold lastOf; rw [if_pos rfl]; omega
  clear hS hT hmS hmT hk hok
  obtain ⟨i0, hi, hz0, hz1, hz2⟩ := info_parts infoPart
  unfold GotSh
  go_enter Tryz.func97, Tryz.ntmps97
  go_wp2_with fail
  with_reducible refine c1.mono ?_
  rintro e w1 ⟨rfl, hb1⟩
  have HB1 := Lib.hid hb1
  clear hb1 c1
  go_wp2_with fail
  with_reducible refine (c3 _ (HS.out.below HB1.out)).mono ?_
  rintro e w2 ⟨B, e0, rfl, hrow2, hb2⟩
  have HR0 : Hid (RgS W S (.slice B S.length e0) (roundD S (T.take 0)).1 (emptyR S) w2) := Lib.hid (start_c (fun k => rfl) HB1.out hrow2 hb2)
  clear hrow2 hb2 HB1 c3
  go_wp2_with fail
  go_loopw [8, 9, 10, 11, 12] (fun la i _ _ _ wr => ∃ (k : Nat) (R : List (Int × Value)), i = .int .i64 k ∧ k ≤ T.length ∧ la = .int .i64 (lastOf S.length (roundD S (T.take k)).2) ∧ ((roundD S (T.take k)).2 = -1 ∨ (0 ≤ (roundD S (T.take k)).2 ∧ (roundD S (T.take k)).2 < (S.length : Int))) ∧ RgS W S (.slice B S.length e0) (roundD S (T.take k)).1 R wr) (fun _ i _ _ _ _ => T.length - (intOf i).toNat)
  case atStart => exact ⟨0, _, rfl, Nat.zero_le _, rfl, .inl rfl, HR0.out⟩
  case round =>
    obtain ⟨k, R, rfl, hkl, rfl, hbd, hP⟩ := hrel
    have HP := Lib.hid hP
    have HBD := Lib.hid hbd
    clear hP HR0 hbd hll
    by_cases hk : k < T.length
    · have hx : T[k]? = some T[k] := List.getElem?_eq_getElem hk
      obtain ⟨b, off, rfl, hlt0, y00, y01⟩ := HT.out.at_ hk
      have hki : (k : Int) < (T.length : Int) := by omega
      have hk0 : (0 : Int) ≤ (k : Int) := by omega
      have hok := okT_iff.1 (hokT _ (List.getElem_mem hk))
      have HSU := Lib.hid (roundD_succ (S := S) hx)
      have HLN := Lib.hid (roundD_len (S := S) (fun t ht => (okT_iff.1 (hokT t ht)).2) k (by omega))
      clear hx
      generalize T[k] = t at *
      obtain ⟨s, n'⟩ := t
      obtain ⟨n, rfl⟩ : ∃ n : Nat, n' = n := ⟨n'.toNat, by simp only at hok; omega⟩
      have hn1 : 1 ≤ n := by simp only at hok; omega
      have hn2 : n ≤ 16 := by simp only at hok; omega
      simp only at y00 y01
      have HTC := Lib.hid (fun w (h : Below W.heap.size W w) => And.intro ((h.cell (p := ⟨b, off + k * 2, none⟩) hlt0).trans y00) (And.intro ((h.cell (p := ⟨b, off + k * 2 + 1, none⟩) hlt0).trans y01) (Nat.lt_of_lt_of_le hlt0 h.size)))
      have HST : Hid (roundD S (T.take (k + 1)) = stP (takersG S s S.length) s (roundD S (T.take k)) n) := Lib.hid (by rw [HSU.out]; rfl)
      have HMEM := Lib.hid (fun i => takersG_mem (S := S) (s := s) (k := S.length) (i := i))
      have HSO := Lib.hid (takersG_sorted S s S.length)
      clear hok hokT y00 y01 HSU hlt0
      generalize takersG S s S.length = L at *
      generalize roundD S (T.take k) = D0 at *
      go_wp2_with fail
      go_loopw [8, 10, 11, 12] (fun la j _ _ wr => ∃ (p : Nat) (R' : List (Int × Value)), j = .int .i64 p ∧ p ≤ n ∧ la = .int .i64 (lastOf S.length (stP L s D0 p).2) ∧ ((stP L s D0 p).2 = -1 ∨ (0 ≤ (stP L s D0 p).2 ∧ (stP L s D0 p).2 < (S.length : Int))) ∧ RgS W S (.slice B S.length e0) (stP L s D0 p).1 R' wr) (fun _ j _ _ _ => n - (intOf j).toNat)
      case atStart => exact ⟨0, R, rfl, Nat.zero_le _, by rw [stP_zero], by rw [stP_zero]; exact HBD.out, by rw [stP_zero]; exact HP.out⟩
      case round =>
        clear HP HBD
        obtain ⟨p, R', rfl, hpl, rfl, hbd, hI⟩ := hrel
        have HI := Lib.hid hI
        have HBD := Lib.hid hbd
        clear hI hbd
        obtain ⟨y0, y1, _⟩ := HTC.out _ HI.out.bel
        by_cases hpk : p < n
        · have hpi : (p : Int) < (n : Int) := by omega
          go_wp2_with fail
          clear y0 y1
          go_loopw [8, 11, 12] (fun la j _ wr => ∃ (x : Nat), j = .int .i64 ((x : Int) + 1) ∧ x ≤ S.length ∧ la = .int .i64 (lastOf S.length (stP L s D0 p).2) ∧ (∀ l : Nat, lastOf S.length (stP L s D0 p).2 = (l : Int) → ∀ j, 1 ≤ j → j < x + 1 → (l + j) % S.length ∉ L) ∧ RgS W S (.slice B S.length e0) (stP L s D0 p).1 R' wr) (fun _ j _ _ => S.length + 1 - (intOf j).toNat)
          case atStart => exact ⟨0, rfl, Nat.zero_le _, rfl, fun l _ j h1 h2 => by omega, HI.out⟩
          case round =>
            clear HI
            obtain ⟨x, rfl, hxl, rfl, hno, hI⟩ := hrel
            have HI := Lib.hid hI
            have HNO := Lib.hid hno
            clear hI hno
            by_cases hxk : x < S.length
            · obtain ⟨l, hl1, hl2', hl3⟩ := lastOf_nat (len := S.length) (by omega) HBD.out
              have hxi : (x : Int) + 1 ≤ (S.length : Int) := by omega
              have HNOl := Lib.hid (HNO.out l hl1)
              have HL3 := Lib.hid (And.intro hl1 (And.intro hl2' hl3))
              rw [hl1]
              obtain ⟨m, hmd⟩ : ∃ m, (l + (x + 1)) % S.length = m := ⟨_, rfl⟩
              have hml : m < S.length := by rw [← hmd]; exact Nat.mod_lt _ (by omega)
              have hw : IntKind.i64.wrap ((l : Int) + ((x : Int) + 1)) = (l : Int) + ((x : Int) + 1) := by rw [IntKind.wrap_i64]; omega
              have hmod : Int.tmod ((l : Int) + ((x : Int) + 1)) (S.length : Int) = (m : Int) := by rw [Int.tmod_eq_emod_of_nonneg (by omega), ← hmd]; rfl
              have hw2 : IntKind.i64.wrap (m : Int) = (m : Int) := by rw [IntKind.wrap_i64]; omega
              have hSz : (S.length : Int) ≠ 0 := by omega
              have hmi : (m : Int) < (S.length : Int) := by omega
              have hm0 : (0 : Int) ≤ (m : Int) := by omega
              have HMD := Lib.hid hmd
              have hmx : S[m]? = some S[m] := List.getElem?_eq_getElem hml
              have hzm := hz _ (List.getElem_mem hml)
              obtain ⟨b3, off3, rfl, hlt3, x0, x1, x2⟩ := (HS.out.below HI.out.bel).at_ hml
              have HYES : Hid (hasB S[m].2.1 s = true → m ∈ L) := Lib.hid (fun h => (HMEM.out m).2 ⟨hml, _, hmx, h⟩)
              have HNON : Hid (hasB S[m].2.1 s = false → m ∉ L) := Lib.hid (fun h hh => by
                obtain ⟨_, y, hy, hy2⟩ := (HMEM.out m).1 hh
                rw [hmx] at hy
                injection hy with hy
                rw [← hy, h] at hy2
                cases hy2)
              obtain ⟨t0, t1, t2⟩ := HTC.out _ HI.out.bel
              have cw := fun w (hb : Below wr.heap.size wr w) => wants_c S[m] s w (x2.below hb) hzm
              unfold sbV sbC at cw
              clear hl1 hl3 hmd hmx x2 hzm
              generalize S[m] = xm at *
              go_wp2_with fail
              clear hmod hw hw2 hSz
              have hS := And.intro x0 (And.intro x1 (And.intro t0 (And.intro hlt3 t2)))
              go_region_held3 (fun w => w.cell? ⟨b3, off3 + m * 2, none⟩ = some (.int .i64 xm.1) ∧ w.cell? ⟨b3, off3 + m * 2 + 1, none⟩ = some (.slice xm.2.2.1 xm.2.1.length xm.2.2.2) ∧ w.cell? ⟨b, off + k * 2, none⟩ = some (.string s) ∧ b3 < w.heap.size ∧ b < w.heap.size) (first | exact sub3_later hS ((Below.refl _ _).drew) | exact sub3_later (by assumption) (by assumption)) (first | ((with_reducible refine (cw _ ((Below.refl _ _).drew)).mono ?_); rintro e w5 ⟨rfl, hb5⟩))
              all_goals
                have HI5 := Lib.hid (HI.out.later (((Below.refl _ _).drew).trans hb5))
                clear hb5 cw hS x0 x1 t0 t1 t2 hlt3 HI
                cases hh : hasB xm.2.1 s with
                | false =>
                  have hmn := HNON.out hh
                  have HNO2 : Hid (∀ l : Nat, lastOf S.length (stP L s D0 p).2 = (l : Int) → ∀ j, 1 ≤ j → j < x + 1 + 1 → (l + j) % S.length ∉ L) := Lib.hid (fun l' hl' j h1 h2 => by
                    by_cases e : j = x + 1
                    · subst e
                      have : l' = l := by have := HL3.out.1; rw [hl'] at this; omega
                      subst this
                      rw [HMD.out]
                      exact hmn
                    · exact HNO.out l' hl' j h1 (by omega))
                  clear hh hmn HYES HNON
                  go_wp2_with fail
                  go_roundw
                  case rel => exact ⟨x + 1, by go_num, hxk, rfl, fun l' hl' => HNO2.out l' (by rw [HL3.out.1]; exact hl'), HI5.out⟩
                  case measure => simp [intOf]; omega
                | true =>
                  have hmL := HYES.out hh
                  have hbh : behG L (stP L s D0 p).2 = m := by
                    rw [← HMD.out]
                    exact next_is HSO.out (fun t ht => ((HMEM.out t).1 ht).1) HL3.out.2.1 HL3.out.2.2 (by omega) (by omega) (by rw [HMD.out]; exact hmL) (fun j h1 h2 => HNOl.out j h1 h2)
                  have hSS := stP_some (s := s) (st := D0) (p := p) (show 0 < L.length from List.length_pos_of_mem hmL)
                  rw [hbh] at hSS
                  have hDl : ((stP L s D0 p).1 m).length ≤ 1000 := by
                    have h1 := stP_len (L := L) (s := s) (st := D0) p m
                    have h2 := HLN.out m
                    omega
                  have hlo : lastOf S.length (m : Int) = (m : Int) := by unfold lastOf; rw [if_neg (by omega)]
                  have hRl : R'.length = S.length := by have := congrArg List.length HI5.out.mem; simpa using this
                  obtain ⟨r, hge2⟩ : ∃ r, R'[m]? = some r := ⟨_, List.getElem?_eq_getElem (by omega)⟩
                  obtain ⟨hnR, g, rfl, hgl, hbg, p0, p1, p2⟩ := HI5.out.sh.at_ hge2
                  have hAP := RgS.app HI5.out hge2 s (p : Int) (.cells #[.string s, .int .i64 (p : Int)] 34)
                  rw [show updD (stP L s D0 p).1 m ((stP L s D0 p).1 m ++ [(s, (p : Int))]) = (stP L s D0 (p + 1)).1 by rw [hSS]] at hAP
                  have HS2 : Hid ((stP L s D0 (p + 1)).2 = (m : Int)) := Lib.hid (by rw [hSS])
                  have hBA : Below w5.heap.size w5 (w5.alloc (.cells #[.string s, .int .i64 (p : Int)] 34)) := (Below.refl _ _).alloc (Nat.le_refl _) _
                  have hrow := own_below (HI5.out.sh.parts m r hge2) hBA.drew
                  have hnw := news_at (Box.new w5.drew 34 #[.string s, .int .i64 (p : Int)])
                  have hbw := HI5.out.bel.size
                  have pa := (hBA.cell (p := ⟨g, m * 2 + 1, none⟩) hgl).trans p1
                  have hS0 := (HTC.out _ (HI5.out.bel.trans (((Below.refl w5.heap.size w5).drew).mono HI5.out.bel.size))).1
                  have hSa := (HTC.out _ (HI5.out.bel.trans (hBA.drew.mono HI5.out.bel.size))).1
                  have HAP := Lib.hid hAP
                  have HLO := Lib.hid hlo
                  have HB4 := Lib.hid (fun w4 (ho : Off (fun k => r.2.ownBlock = some k) w5 w4) => (HTC.out w4 (HI5.out.bel.trans (ho.below (B := W.heap.size) HI5.out.bel.size fun k hk => (own_blk (HI5.out.sh.parts m r hge2) hk).1))).1)
                  clear hh hmL hbh hSS hlo hRl hnR hgl hbg hAP hBA HI5 HYES HNON hge2
                  generalize (stP L s D0 p).1 = Dx at *
                  go_wp2_with fail
                  refine wp_region_held_drew (S := (fun w => w.cell? ⟨b, off + k * 2, none⟩ = some (.string s))) (by kernel_rfl) hS0 (fun hHeld => ?_)
                  refine takeW (i := 0) (v := ?v1) rfl (by kernel_rfl) (by kernel_rfl) (by kernel_rfl) (fun _ _ _ h => h) (by kernel_rfl) hHeld ?hy1 ?rest1
                  case hy1 => (intro w hSw; (try dsimp only at hSw); go_simp; (try with_reducible rfl))
                  try simp only [Act.put, List.setIfInBounds_toArray, List.set_cons_zero, List.set_cons_succ]
                  refine takeW (i := 1) (v := ?v2) rfl (by kernel_rfl) (by kernel_rfl) (by kernel_rfl) (fun _ _ _ h => h) (by kernel_rfl) hHeld ?hy2 ?rest2
                  case hy2 => (intro w hSw; (try dsimp only at hSw); go_simp; (try with_reducible rfl))
                  try simp only [Act.put, List.setIfInBounds_toArray, List.set_cons_zero, List.set_cons_succ]
                  refine takeW (i := 2) (v := ?v3) rfl (by kernel_rfl) (by kernel_rfl) (by kernel_rfl) (fun _ _ _ h => h) (by kernel_rfl) hHeld ?hy3 ?rest3
                  case hy3 => (intro w hSw; (try dsimp only at hSw); go_simp; (try with_reducible rfl))
                  try simp only [Act.put, List.setIfInBounds_toArray, List.set_cons_zero, List.set_cons_succ]
                  refine takeW (i := 3) (v := ?v4) rfl (by kernel_rfl) (by kernel_rfl) (by kernel_rfl) (fun _ _ _ h => h) (by kernel_rfl) hHeld ?hy4 ?rest4
                  case hy4 => (intro w hSw; (try dsimp only at hSw); go_simp; (try with_reducible rfl))
                  try simp only [Act.put, List.setIfInBounds_toArray, List.set_cons_zero, List.set_cons_succ]
                  refine takeW (i := 4) (v := ?v5) rfl (by kernel_rfl) (by kernel_rfl) (by kernel_rfl) (fun _ _ _ h => h) (by kernel_rfl) hHeld ?hy5 ?rest5
                  case hy5 => (intro w hSw; (try dsimp only at hSw); go_simp; (try with_reducible rfl))
                  try simp only [Act.put, List.setIfInBounds_toArray, List.set_cons_zero, List.set_cons_succ]
                  refine takeW (i := 5) (v := ?v6) rfl (by kernel_rfl) (by kernel_rfl) (by kernel_rfl) (fun _ _ _ h => h) (by kernel_rfl) hHeld ?hy6 ?rest6
                  case hy6 => (intro w hSw; (try dsimp only at hSw); go_simp; (try with_reducible rfl))
                  try simp only [Act.put, List.setIfInBounds_toArray, List.set_cons_zero, List.set_cons_succ]
                  refine takeW (i := 7) (v := ?v7) rfl (by kernel_rfl) (by kernel_rfl) (by kernel_rfl) (fun _ _ _ h => h) (by kernel_rfl) hHeld ?hy7 ?rest7
                  case hy7 => (intro w hSw; (try dsimp only at hSw); go_simp; (try with_reducible rfl))
                  try simp only [Act.put, List.setIfInBounds_toArray, List.set_cons_zero, List.set_cons_succ]
                  refine takeW (i := 8) (v := ?v8) rfl (by kernel_rfl) (by kernel_rfl) (by kernel_rfl) (fun _ _ _ h => h) (by kernel_rfl) hHeld ?hy8 ?rest8
                  case hy8 => (intro w hSw; (try dsimp only at hSw); go_simp; (try with_reducible rfl))
                  try simp only [Act.put, List.setIfInBounds_toArray, List.set_cons_zero, List.set_cons_succ]
                  refine takeW (i := 9) (v := ?v9) rfl (by kernel_rfl) (by kernel_rfl) (by kernel_rfl) (fun _ _ _ h => h) (by kernel_rfl) hHeld ?hy9 ?rest9
                  case hy9 => (intro w hSw; (try dsimp only at hSw); go_simp; (try with_reducible rfl))
                  try simp only [Act.put, List.setIfInBounds_toArray, List.set_cons_zero, List.set_cons_succ]
                  refine takeW (i := 10) (v := ?v10) rfl (by kernel_rfl) (by kernel_rfl) (by kernel_rfl) (fun _ _ _ h => h) (by kernel_rfl) hHeld ?hy10 ?rest10
                  case hy10 => (intro w hSw; (try dsimp only at hSw); go_simp; (try with_reducible rfl))
                  try simp only [Act.put, List.setIfInBounds_toArray, List.set_cons_zero, List.set_cons_succ]
                  refine takeW (i := 11) (v := ?v11) rfl (by kernel_rfl) (by kernel_rfl) (by kernel_rfl) (fun _ _ _ h => h) (by kernel_rfl) hHeld ?hy11 ?rest11
                  case hy11 => (intro w hSw; (try dsimp only at hSw); go_simp; (try with_reducible rfl))
                  try simp only [Act.put, List.setIfInBounds_toArray, List.set_cons_zero, List.set_cons_succ]
                  refine takeW (i := 12) (v := ?v12) rfl (by kernel_rfl) (by kernel_rfl) (by kernel_rfl) (fun _ _ _ h => h) (by kernel_rfl) hHeld ?hy12 ?rest12
                  case hy12 => (intro w hSw; (try dsimp only at hSw); go_simp; (try with_reducible rfl))
                  try simp only [Act.put, List.setIfInBounds_toArray, List.set_cons_zero, List.set_cons_succ]
                  refine takeW (i := 13) (v := ?v13) rfl (by kernel_rfl) (by kernel_rfl) (by kernel_rfl) (fun _ _ _ h => h) (by kernel_rfl) hHeld ?hy13 ?rest13
                  case hy13 => (intro w hSw; (try dsimp only at hSw); go_simp; (try with_reducible rfl))
                  try simp only [Act.put, List.setIfInBounds_toArray, List.set_cons_zero, List.set_cons_succ]
                  refine wpAnyH_ready (rs := [6, 14]) (by kernel_rfl) (by simp) ?_
                  refine consL rfl (by kernel_rfl) (fun K hK => ?bA14) (consL rfl (by kernel_rfl) (fun K hK => ?bB14) AllReadyH.nil)
                  case bA14 =>
                    go_simp
                    refine hK.out _ _ (hS0) (fun hHeld => ?_)
                    clear hK K
                    try simp only [Act.put, List.setIfInBounds_toArray, List.set_cons_zero, List.set_cons_succ]
                    refine wpAnyH_ready (rs := [14]) (by kernel_rfl) (by simp) ?_
                    refine consL rfl (by kernel_rfl) (fun K hK => ?_) AllReadyH.nil
                    go_simp
                    refine hK.out _ _ (hSa) (fun hHeld => ?_)
                    clear hK K
                    try simp only [Act.put, List.setIfInBounds_toArray, List.set_cons_zero, List.set_cons_succ]
                    refine wpAnyH_ready (rs := [15]) (by kernel_rfl) (by simp) ?_
                    refine consL rfl (by kernel_rfl) (fun K hK => ?_) AllReadyH.nil
                    (refine wp_append_lies (w := (w5.alloc (.cells #[.string s, .int .i64 (p : Int)] 34)).drew) (.tmp 67) (.tmp 75) 44 rfl W.heap.size 34 i0 (.agg #[.string ⟨#[]⟩, .int .i64 0]) 2 24 Tryz.underlying44 hi hz0 hz1 hz2 rfl (by decide) r.2 (Dx m).length (prtC (Dx m)) (by simp [Act.eval]) hrow ⟨w5.heap.size, 0, none⟩ 1 1 [.string s, .int .i64 (p : Int)] (by simp [Act.eval]) rfl hnw (by simp [Value.oneCell']) (by decide) (by unfold maxLen; omega) (by omega) (by simp; omega) (w5.heap.size + 1) (by simp) ?_; intro g2 cap2 w4 hown4 hgrow4 hg4 hlt4; obtain ⟨k1, k2, k3, k4, k5⟩ := HAP.out g2 cap2 w4 hown4 hgrow4 hg4; have hS4 := HB4.out _ k5; have hS5 := (HTC.out _ k3.bel).1; have HK3 := Lib.hid k3)
                    refine hK.out _ _ (hS4) (fun hHeld => ?_)
                    clear hK K
                    try simp only [Act.put, List.setIfInBounds_toArray, List.set_cons_zero, List.set_cons_succ]
                    refine takeW (i := 16) (v := ?v15) rfl (by kernel_rfl) (by kernel_rfl) (by kernel_rfl) (fun _ _ _ h => h) (by kernel_rfl) hHeld ?hy15 ?rest15
                    case hy15 => (intro w hSw; (try dsimp only at hSw); go_simp; (try with_reducible rfl))
                    try simp only [Act.put, List.setIfInBounds_toArray, List.set_cons_zero, List.set_cons_succ]
                    refine takeW (i := 17) (v := ?v16) rfl (by kernel_rfl) (by kernel_rfl) (by kernel_rfl) (fun _ _ _ h => h) (by kernel_rfl) hHeld ?hy16 ?rest16
                    case hy16 => (intro w hSw; (try dsimp only at hSw); go_simp; (try with_reducible rfl))
                    try simp only [Act.put, List.setIfInBounds_toArray, List.set_cons_zero, List.set_cons_succ]
                    refine wpAnyH_ready (rs := [18]) (by kernel_rfl) (by simp) ?_
                    refine consL rfl (by kernel_rfl) (fun K hK => ?_) AllReadyH.nil
                    go_simp
                    refine hK.out _ _ (hS5) (fun hHeld => ?_)
                    clear hK K
                    try simp only [Act.put, List.setIfInBounds_toArray, List.set_cons_zero, List.set_cons_succ]
                    refine wpAnyH_done (by kernel_rfl) ?_ _
                    go_wp2_with fail
                    go_roundw
                    case rel => exact ⟨p + 1, _, by go_num, hpk, by rw [HS2.out, HLO.out], .inr (by rw [HS2.out]; omega), HK3.out⟩
                    case measure => simp [intOf]; omega
                  case bB14 =>
                    go_simp
                    refine hK.out _ _ (hSa) (fun hHeld => ?_)
                    clear hK K
                    try simp only [Act.put, List.setIfInBounds_toArray, List.set_cons_zero, List.set_cons_succ]
                    refine wpAnyH_ready (rs := [6]) (by kernel_rfl) (by simp) ?_
                    refine consL rfl (by kernel_rfl) (fun K hK => ?_) AllReadyH.nil
                    go_simp
                    refine hK.out _ _ (hSa) (fun hHeld => ?_)
                    clear hK K
                    try simp only [Act.put, List.setIfInBounds_toArray, List.set_cons_zero, List.set_cons_succ]
                    refine wpAnyH_ready (rs := [15]) (by kernel_rfl) (by simp) ?_
                    refine consL rfl (by kernel_rfl) (fun K hK => ?_) AllReadyH.nil
                    (refine wp_append_lies (w := (w5.alloc (.cells #[.string s, .int .i64 (p : Int)] 34)).drew) (.tmp 67) (.tmp 75) 44 rfl W.heap.size 34 i0 (.agg #[.string ⟨#[]⟩, .int .i64 0]) 2 24 Tryz.underlying44 hi hz0 hz1 hz2 rfl (by decide) r.2 (Dx m).length (prtC (Dx m)) (by simp [Act.eval]) hrow ⟨w5.heap.size, 0, none⟩ 1 1 [.string s, .int .i64 (p : Int)] (by simp [Act.eval]) rfl hnw (by simp [Value.oneCell']) (by decide) (by unfold maxLen; omega) (by omega) (by simp; omega) (w5.heap.size + 1) (by simp) ?_; intro g2 cap2 w4 hown4 hgrow4 hg4 hlt4; obtain ⟨k1, k2, k3, k4, k5⟩ := HAP.out g2 cap2 w4 hown4 hgrow4 hg4; have hS4 := HB4.out _ k5; have hS5 := (HTC.out _ k3.bel).1; have HK3 := Lib.hid k3)
                    refine hK.out _ _ (hS4) (fun hHeld => ?_)
                    clear hK K
                    try simp only [Act.put, List.setIfInBounds_toArray, List.set_cons_zero, List.set_cons_succ]
                    refine takeW (i := 16) (v := ?v17) rfl (by kernel_rfl) (by kernel_rfl) (by kernel_rfl) (fun _ _ _ h => h) (by kernel_rfl) hHeld ?hy17 ?rest17
                    case hy17 => (intro w hSw; (try dsimp only at hSw); go_simp; (try with_reducible rfl))
                    try simp only [Act.put, List.setIfInBounds_toArray, List.set_cons_zero, List.set_cons_succ]
                    refine takeW (i := 17) (v := ?v18) rfl (by kernel_rfl) (by kernel_rfl) (by kernel_rfl) (fun _ _ _ h => h) (by kernel_rfl) hHeld ?hy18 ?rest18
                    case hy18 => (intro w hSw; (try dsimp only at hSw); go_simp; (try with_reducible rfl))
                    try simp only [Act.put, List.setIfInBounds_toArray, List.set_cons_zero, List.set_cons_succ]
                    refine wpAnyH_ready (rs := [18]) (by kernel_rfl) (by simp) ?_
                    refine consL rfl (by kernel_rfl) (fun K hK => ?_) AllReadyH.nil
                    go_simp
                    refine hK.out _ _ (hS5) (fun hHeld => ?_)
                    clear hK K
                    try simp only [Act.put, List.setIfInBounds_toArray, List.set_cons_zero, List.set_cons_succ]
                    refine wpAnyH_done (by kernel_rfl) ?_ _
                    go_wp2_with fail
                    go_roundw
                    case rel => exact ⟨p + 1, _, by go_num, hpk, by rw [HS2.out, HLO.out], .inr (by rw [HS2.out]; omega), HK3.out⟩
                    case measure => simp [intOf]; omega
            · have hxi : ¬ (x : Int) + 1 ≤ (S.length : Int) := by omega
              have hL0 : L.length = 0 := by
                by_cases hS0 : S.length = 0
                · cases L with
                  | nil => rfl
                  | cons t L => exact absurd ((HMEM.out t).1 (by simp)).1 (by omega)
                · obtain ⟨l, hl1, hl2', hl3⟩ := lastOf_nat (len := S.length) (by omega) HBD.out
                  exact some_is (fun t ht => ((HMEM.out t).1 ht).1) hl2' (fun j h1 h2 => HNO.out l hl1 j h1 (by omega))
              have HE : Hid (stP L s D0 (p + 1) = stP L s D0 p) := Lib.hid (by rw [stP_none hL0, stP_none hL0])
              go_wp2_with fail
              go_roundw
              case rel => exact ⟨p + 1, R', by go_num, hpk, by rw [HE.out], by rw [HE.out]; exact HBD.out, by rw [HE.out]; exact HI.out⟩
              case measure => simp [intOf]; omega
        · have hpp : p = n := by omega
          subst hpp
          rw [← HST.out] at HI HBD
          have hpi : ¬ (p : Int) < (p : Int) := by omega
          go_wp2_with fail
          go_roundw
          case rel => exact ⟨k + 1, R', by go_num, hk, by rw [HST.out], HBD.out, HI.out⟩
          case measure => simp [intOf]; omega
    · have hkk : k = T.length := by omega
      subst hkk
      have HQ : Hid (RgS W S (.slice B S.length e0) (roundD S T).1 R wr) := Lib.hid (by have := HP.out; rwa [List.take_length] at this)
      clear HP
      go_wp2_with fail
      go_ret2
      exact ⟨B, e0, R, rfl, HQ.out.sh, HQ.out.mem, HQ.out.bel⟩
end Go.Proofs.YtlokhhjhckiloaaGreat
/- assign: the document's Range, by a contract: the walk. No condition. -/
namespace Go.Proofs.YtlokhhjhckiloaaGreat
open Go.RowKit
set_option linter.unusedVariables false
set_option maxHeartbeats 32000000 in
set_option maxRecDepth 100000 in
theorem rrange_c (S : List SX) (A : Option Addr) (c : Nat) (T : List TX) (A2 : Option Addr) (c2 : Nat) (W : World) (hS : SbIn W A S) (hT : TpIn W A2 T) (hz : ∀ x ∈ S, x.2.1.length ≤ 140737488351232) (hk : chkE S T = 0) :
    Calls Tryz.prog 96 #[.slice A S.length c, .slice A2 T.length c2] W (GotSh W S (rangeD S T)) := by
  obtain ⟨hmS, hmT⟩ := chk_ok hk
  obtain ⟨hl, hok, _⟩ := mayS_iff.1 hmS
  obtain ⟨hl2, hokT, _⟩ := mayT_iff.1 hmT
  have c1 := rcheck_c S A c T A2 c2 W hS hT (by omega) (by omega) hz
  rw [hk] at c1
  have c3 := fun w (h : SbIn w A S) => rempty_c S A c w h (by omega)
  have c4 := fun s w (h : SbIn w A S) => rtakers_c S A c s w h (by omega) hz
  have HS := Lib.hid hS
  have HT := Lib.hid hT
  clear hS hT hmS hmT hk hok
  obtain ⟨i0, hi, hz0, hz1, hz2⟩ := info_parts infoPart
  unfold GotSh
  go_enter Tryz.func96, Tryz.ntmps96
  go_wp2_with fail
  with_reducible refine c1.mono ?_
  rintro e w1 ⟨rfl, hb1⟩
  have HB1 := Lib.hid hb1
  clear hb1 c1
  go_wp2_with fail
  with_reducible refine (c3 _ (HS.out.below HB1.out)).mono ?_
  rintro e w2 ⟨B, e0, rfl, hrow2, hb2⟩
  have HR0 : Hid (RgS W S (.slice B S.length e0) (rangeD S (T.take 0)) (emptyR S) w2) := Lib.hid (start_c (fun k => rfl) HB1.out hrow2 hb2)
  clear hrow2 hb2 HB1 c3
  go_wp2_with fail
  go_loopw [8, 9, 10, 11, 12, 13] (fun i _ _ _ _ _ wr => ∃ (k : Nat) (R : List (Int × Value)), i = .int .i64 k ∧ k ≤ T.length ∧ RgS W S (.slice B S.length e0) (rangeD S (T.take k)) R wr) (fun i _ _ _ _ _ _ => T.length - (intOf i).toNat)
  case atStart => exact ⟨0, _, rfl, Nat.zero_le _, HR0.out⟩
  case round =>
    obtain ⟨k, R, rfl, hkl, hP⟩ := hrel
    have HP := Lib.hid hP
    clear hP HR0
    by_cases hk : k < T.length
    · have hx : T[k]? = some T[k] := List.getElem?_eq_getElem hk
      obtain ⟨b, off, rfl, hlt0, y00, y01⟩ := HT.out.at_ hk
      have y0 := (HP.out.bel.cell (p := ⟨b, off + k * 2, none⟩) hlt0).trans y00
      have y1 := (HP.out.bel.cell (p := ⟨b, off + k * 2 + 1, none⟩) hlt0).trans y01
      have hki : (k : Int) < (T.length : Int) := by omega
      have hok := okT_iff.1 (hokT _ (List.getElem_mem hk))
      have HSU := Lib.hid (rangeD_succ (S := S) hx)
      have HLN := Lib.hid (rangeD_len (S := S) (fun t ht => (okT_iff.1 (hokT t ht)).2) k (by omega))
      clear hx
      generalize T[k] = t at *
      obtain ⟨s, n'⟩ := t
      obtain ⟨n, rfl⟩ : ∃ n : Nat, n' = n := ⟨n'.toNat, by simp only at hok; omega⟩
      have hn1 : 1 ≤ n := by simp only at hok; omega
      have hn2 : n ≤ 16 := by simp only at hok; omega
      simp only at y0 y1 y00 y01
      have HTC := Lib.hid (fun w (h : Below W.heap.size W w) => And.intro ((h.cell (p := ⟨b, off + k * 2, none⟩) hlt0).trans y00) ((h.cell (p := ⟨b, off + k * 2 + 1, none⟩) hlt0).trans y01))
      have c5 := c4 s wr (HS.out.below HP.out.bel)
      clear hok hokT c4 y00 y01
      go_wp2_with fail
      with_reducible refine c5.mono ?_
      rintro e w3 ⟨A3, c3, rfl, htk, hb3⟩
      have HI0 : Hid (RrI W S (.slice B S.length e0) A3 c3 (takersG S s S.length) (rangeD S (T.take k)) R w3) := Lib.hid ⟨HP.out.later hb3, own_base htk HP.out.bel.size⟩
      have hTL := takersG_len S s S.length
      have HML := Lib.hid (fun i m => take_le (S := S) (s := s) (i := i) (m := m))
      have HDS : Hid (stepR S (rangeD S (T.take k)) (s, (n : Int)) = dealK (takersG S s S.length) s n (rangeD S (T.take k)) (takersG S s S.length).length) := Lib.hid (by unfold stepR; rfl)
      clear hb3 htk c5 HP y0 y1
      generalize takersG S s S.length = L at *
      generalize rangeD S (T.take k) = D0 at *
      go_wp2_with fail
      go_loopw [10, 11, 12, 13] (fun nx j _ _ wr => ∃ (x : Nat) (R' : List (Int × Value)), j = .int .i64 x ∧ x ≤ L.length ∧ nx = .int .i64 (offN n L.length x : Nat) ∧ RrI W S (.slice B S.length e0) A3 c3 L (dealK L s n D0 x) R' wr) (fun _ j _ _ _ => L.length - (intOf j).toNat)
      case atStart => exact ⟨0, R, rfl, Nat.zero_le _, by rw [offN_zero]; rfl, HI0.out⟩
      case round =>
        obtain ⟨x, R', rfl, hxl, rfl, hI⟩ := hrel
        have HI := Lib.hid hI
        clear HI0
        by_cases hxk : x < L.length
        · obtain ⟨m, hge⟩ : ∃ m, L[x]? = some m := ⟨_, List.getElem?_eq_getElem hxk⟩
          clear hI
          obtain ⟨q, hq⟩ : ∃ q : Nat, n / L.length = q := ⟨_, rfl⟩
          obtain ⟨rr, hrr⟩ : ∃ rr : Nat, n % L.length = rr := ⟨_, rfl⟩
          have hdiv : Int.tdiv (n : Int) (L.length : Int) = (q : Int) := by rw [Int.tdiv_eq_ediv_of_nonneg (by omega), ← hq]; rfl
          have hmod : Int.tmod (n : Int) (L.length : Int) = (rr : Int) := by rw [Int.tmod_eq_emod_of_nonneg (by omega), ← hrr]; rfl
          have hdl : q ≤ 16 := by rw [← hq]; exact Nat.le_trans (Nat.div_le_self _ _) hn2
          have hml : rr ≤ 16 := by rw [← hrr]; exact Nat.le_trans (Nat.mod_le _ _) hn2
          have hrw : rowN n L.length x = if x < rr then q + 1 else q := by unfold rowN; rw [hq, hrr]; split <;> rfl
          have hLz : (L.length : Int) ≠ 0 := by omega
          have hxi : (x : Int) < (L.length : Int) := by omega
          have hw1 : IntKind.i64.wrap (q : Int) = (q : Int) := by rw [IntKind.wrap_i64]; omega
          have hw2 : IntKind.i64.wrap ((q : Int) + 1) = (q : Int) + 1 := by rw [IntKind.wrap_i64]; omega
          have hw3 : IntKind.i64.wrap (rr : Int) = (rr : Int) := by rw [IntKind.wrap_i64]; omega
          obtain ⟨y0, y1⟩ := HTC.out _ HI.out.st.bel
          have HDK := Lib.hid (dealK_succ (s := s) (n := n) (D := D0) hge)
          have HGE := Lib.hid hge
          have HRW := Lib.hid hrw
          clear hq hrr hge
          go_upto_if 58 with fail
          go_cut [12] from 58 to 60 (fun v wx => v = .int .i64 (rowN n L.length x : Nat) ∧ wr = wx)
          case first =>
            by_cases hr : x < rr
            · have hri : (x : Int) < (rr : Int) := by omega
              rw [if_pos hr] at hrw
              go_wp2_with fail
              go_meet
              refine ⟨?_, ?_⟩ <;> first | rfl | (rw [hrw]; done) | (rw [hrw]; rfl)
            · have hri : ¬ (x : Int) < (rr : Int) := by omega
              rw [if_neg hr] at hrw
              go_wp2_with fail
              go_meet
              refine ⟨?_, ?_⟩ <;> first | rfl | (rw [hrw]; done) | (rw [hrw]; rfl)
          case rest =>
            obtain ⟨rfl, rfl⟩ := hcut
            have hof := offN_le (n := n) hxk
            clear hdiv hmod hw1 hw2 hw3 y0 y1 hrw hdl hml
            go_wp2_with fail
            go_loopw [10, 13] (fun nx j wr => ∃ (y : Nat) (R2 : List (Int × Value)), j = .int .i64 y ∧ y ≤ rowN n L.length x ∧ nx = .int .i64 (offN n L.length x + y : Nat) ∧ RrI W S (.slice B S.length e0) A3 c3 L (updD (dealK L s n D0 x) m (dealK L s n D0 x m ++ (chunkN s n L.length x).take y)) R2 wr) (fun _ j _ => rowN n L.length x - (intOf j).toNat)
            case atStart => exact ⟨0, R', rfl, Nat.zero_le _, rfl, by rw [chunk_zero, List.append_nil, updD_self]; exact HI.out⟩
            case round =>
              obtain ⟨y, R2, rfl, hyl, rfl, hJ⟩ := hrel
              by_cases hyk : y < rowN n L.length x
              · have HJ := Lib.hid hJ
                have hyi : (y : Int) < (rowN n L.length x : Int) := by omega
                clear hJ HI
                obtain ⟨gt, rfl, hgt, v0⟩ := ints_at HJ.out.tak HGE.out
                have hmS := HML.out x _ HGE.out
                have hRl : R2.length = S.length := by have := congrArg List.length HJ.out.st.mem; simpa using this
                obtain ⟨r, hge2⟩ : ∃ r, R2[m]? = some r := ⟨_, List.getElem?_eq_getElem (by omega)⟩
                obtain ⟨hnR, g, rfl, hgl, hbg, p0, p1, p2⟩ := HJ.out.st.sh.at_ hge2
                have hDl : (updD (dealK L s n D0 x) m (dealK L s n D0 x m ++ (chunkN s n L.length x).take y) m).length ≤ 1000 := by
                  rw [updD_at, List.length_append]
                  have h1 := dealK_len (L := L) (s := s) (n := n) (D := D0) x (by omega) m
                  have h2 := HLN.out m
                  have h5 : (List.take y (chunkN s n L.length x)).length ≤ y := List.length_take_le _ _
                  omega
                have hCS := chunk_succ (s := s) (n := n) hxk hyk
                have hAP := RrI.app HJ.out hge2 (hA := rfl) HGE.out s ((offN n L.length x + y : Nat) : Int) (.cells #[.string s, .int .i64 ((offN n L.length x + y : Nat) : Int)] 34)
                have hUP : updD (updD (dealK L s n D0 x) m (dealK L s n D0 x m ++ (chunkN s n L.length x).take y)) m (updD (dealK L s n D0 x) m (dealK L s n D0 x m ++ (chunkN s n L.length x).take y) m ++ [(s, ((offN n L.length x + y : Nat) : Int))]) = updD (dealK L s n D0 x) m (dealK L s n D0 x m ++ (chunkN s n L.length x).take (y + 1)) := by
                  rw [updD_twice, updD_at, hCS, List.append_assoc]
                rw [hUP] at hAP
                have hoi : offN n L.length x + y ≤ 16 := by omega
                have hoa : offN n L.length x + (y + 1) = offN n L.length x + y + 1 := rfl
                have HOA := Lib.hid hoa
                have hrow := own_below (HJ.out.st.sh.parts m r hge2) (show Below wr.heap.size wr (wr.alloc (.cells #[.string s, .int .i64 ((offN n L.length x + y : Nat) : Int)] 34)).drew from ((Below.refl _ _).alloc (Nat.le_refl _) _).drew)
                have hnw := news_at (Box.new wr.drew 34 #[.string s, .int .i64 ((offN n L.length x + y : Nat) : Int)])
                have hbw := HJ.out.st.bel.size
                have hBA : Below wr.heap.size wr (wr.alloc (.cells #[.string s, .int .i64 ((offN n L.length x + y : Nat) : Int)] 34)) := (Below.refl _ _).alloc (Nat.le_refl _) _
                have pa := (hBA.cell (p := ⟨g, m * 2 + 1, none⟩) hgl).trans p1
                have hKS : ∀ w, Below W.heap.size W w → w.ownsRow W.heap.size 3 1 (.slice (some ⟨gt, 0, none⟩) L.length c3) L.length (intsC L) → w.cell? ⟨gt, x, none⟩ = some (.int .i64 (m : Int)) ∧ w.cell? ⟨b, off + k * 2, none⟩ = some (.string s) := fun w hb ht => by
                  obtain ⟨gt1, e1, _, v1⟩ := ints_at ht HGE.out
                  injection e1 with e1
                  injection e1 with e1
                  subst e1
                  exact ⟨v1, (HTC.out w hb).1⟩
                have hS0 := hKS _ (HJ.out.st.bel.trans (((Below.refl wr.heap.size wr).drew).mono HJ.out.st.bel.size)) HJ.out.tak
                have hSa := hKS _ (HJ.out.st.bel.trans (hBA.drew.mono HJ.out.st.bel.size)) (own_below HJ.out.tak hBA.drew)
                have HKS := Lib.hid hKS
                have hxi0 : (0 : Int) ≤ (x : Int) := by omega
                have hmi : (m : Int) < (S.length : Int) := by omega
                have hm0 : (0 : Int) ≤ (m : Int) := by omega
                have HAP := Lib.hid hAP
                clear hUP hCS hAP hnR hRl hbg hge2 hBA HJ hmS hLz hKS v0 hgt hoa
                generalize updD (dealK L s n D0 x) m (dealK L s n D0 x m ++ (chunkN s n L.length x).take y) = Dx at *
                generalize offN n L.length x + y = ix at *
                go_wp2_with fail
                refine wp_region_held_drew (S := (fun w => w.cell? ⟨gt, x, none⟩ = some (.int .i64 (m : Int)) ∧ w.cell? ⟨b, off + k * 2, none⟩ = some (.string s))) (by kernel_rfl) hS0 (fun hHeld => ?_)
                refine takeW (i := 0) (v := ?v1) rfl (by kernel_rfl) (by kernel_rfl) (by kernel_rfl) (fun _ _ _ h => h) (by kernel_rfl) hHeld ?hy1 ?rest1
                case hy1 => (intro w hSw; (try dsimp only at hSw); go_simp; (try with_reducible rfl))
                try simp only [Act.put, List.setIfInBounds_toArray, List.set_cons_zero, List.set_cons_succ]
                refine takeW (i := 1) (v := ?v2) rfl (by kernel_rfl) (by kernel_rfl) (by kernel_rfl) (fun _ _ _ h => h) (by kernel_rfl) hHeld ?hy2 ?rest2
                case hy2 => (intro w hSw; (try dsimp only at hSw); go_simp; (try with_reducible rfl))
                try simp only [Act.put, List.setIfInBounds_toArray, List.set_cons_zero, List.set_cons_succ]
                refine takeW (i := 2) (v := ?v3) rfl (by kernel_rfl) (by kernel_rfl) (by kernel_rfl) (fun _ _ _ h => h) (by kernel_rfl) hHeld ?hy3 ?rest3
                case hy3 => (intro w hSw; (try dsimp only at hSw); go_simp; (try with_reducible rfl))
                try simp only [Act.put, List.setIfInBounds_toArray, List.set_cons_zero, List.set_cons_succ]
                refine takeW (i := 3) (v := ?v4) rfl (by kernel_rfl) (by kernel_rfl) (by kernel_rfl) (fun _ _ _ h => h) (by kernel_rfl) hHeld ?hy4 ?rest4
                case hy4 => (intro w hSw; (try dsimp only at hSw); go_simp; (try with_reducible rfl))
                try simp only [Act.put, List.setIfInBounds_toArray, List.set_cons_zero, List.set_cons_succ]
                refine takeW (i := 4) (v := ?v5) rfl (by kernel_rfl) (by kernel_rfl) (by kernel_rfl) (fun _ _ _ h => h) (by kernel_rfl) hHeld ?hy5 ?rest5
                case hy5 => (intro w hSw; (try dsimp only at hSw); go_simp; (try with_reducible rfl))
                try simp only [Act.put, List.setIfInBounds_toArray, List.set_cons_zero, List.set_cons_succ]
                refine takeW (i := 5) (v := ?v6) rfl (by kernel_rfl) (by kernel_rfl) (by kernel_rfl) (fun _ _ _ h => h) (by kernel_rfl) hHeld ?hy6 ?rest6
                case hy6 => (intro w hSw; (try dsimp only at hSw); go_simp; (try with_reducible rfl))
                try simp only [Act.put, List.setIfInBounds_toArray, List.set_cons_zero, List.set_cons_succ]
                refine takeW (i := 6) (v := ?v7) rfl (by kernel_rfl) (by kernel_rfl) (by kernel_rfl) (fun _ _ _ h => h) (by kernel_rfl) hHeld ?hy7 ?rest7
                case hy7 => (intro w hSw; (try dsimp only at hSw); go_simp; (try with_reducible rfl))
                try simp only [Act.put, List.setIfInBounds_toArray, List.set_cons_zero, List.set_cons_succ]
                refine takeW (i := 7) (v := ?v8) rfl (by kernel_rfl) (by kernel_rfl) (by kernel_rfl) (fun _ _ _ h => h) (by kernel_rfl) hHeld ?hy8 ?rest8
                case hy8 => (intro w hSw; (try dsimp only at hSw); go_simp; (try with_reducible rfl))
                try simp only [Act.put, List.setIfInBounds_toArray, List.set_cons_zero, List.set_cons_succ]
                refine takeW (i := 8) (v := ?v9) rfl (by kernel_rfl) (by kernel_rfl) (by kernel_rfl) (fun _ _ _ h => h) (by kernel_rfl) hHeld ?hy9 ?rest9
                case hy9 => (intro w hSw; (try dsimp only at hSw); go_simp; (try with_reducible rfl))
                try simp only [Act.put, List.setIfInBounds_toArray, List.set_cons_zero, List.set_cons_succ]
                refine takeW (i := 9) (v := ?v10) rfl (by kernel_rfl) (by kernel_rfl) (by kernel_rfl) (fun _ _ _ h => h) (by kernel_rfl) hHeld ?hy10 ?rest10
                case hy10 => (intro w hSw; (try dsimp only at hSw); go_simp; (try with_reducible rfl))
                try simp only [Act.put, List.setIfInBounds_toArray, List.set_cons_zero, List.set_cons_succ]
                refine takeW (i := 10) (v := ?v11) rfl (by kernel_rfl) (by kernel_rfl) (by kernel_rfl) (fun _ _ _ h => h) (by kernel_rfl) hHeld ?hy11 ?rest11
                case hy11 => (intro w hSw; (try dsimp only at hSw); go_simp; (try with_reducible rfl))
                try simp only [Act.put, List.setIfInBounds_toArray, List.set_cons_zero, List.set_cons_succ]
                refine takeW (i := 11) (v := ?v12) rfl (by kernel_rfl) (by kernel_rfl) (by kernel_rfl) (fun _ _ _ h => h) (by kernel_rfl) hHeld ?hy12 ?rest12
                case hy12 => (intro w hSw; (try dsimp only at hSw); go_simp; (try with_reducible rfl))
                try simp only [Act.put, List.setIfInBounds_toArray, List.set_cons_zero, List.set_cons_succ]
                refine takeW (i := 13) (v := ?v13) rfl (by kernel_rfl) (by kernel_rfl) (by kernel_rfl) (fun _ _ _ h => h) (by kernel_rfl) hHeld ?hy13 ?rest13
                case hy13 => (intro w hSw; (try dsimp only at hSw); go_simp; (try with_reducible rfl))
                try simp only [Act.put, List.setIfInBounds_toArray, List.set_cons_zero, List.set_cons_succ]
                refine takeW (i := 14) (v := ?v14) rfl (by kernel_rfl) (by kernel_rfl) (by kernel_rfl) (fun _ _ _ h => h) (by kernel_rfl) hHeld ?hy14 ?rest14
                case hy14 => (intro w hSw; (try dsimp only at hSw); go_simp; (try with_reducible rfl))
                try simp only [Act.put, List.setIfInBounds_toArray, List.set_cons_zero, List.set_cons_succ]
                refine takeW (i := 15) (v := ?v15) rfl (by kernel_rfl) (by kernel_rfl) (by kernel_rfl) (fun _ _ _ h => h) (by kernel_rfl) hHeld ?hy15 ?rest15
                case hy15 => (intro w hSw; (try dsimp only at hSw); go_simp; (try with_reducible rfl))
                try simp only [Act.put, List.setIfInBounds_toArray, List.set_cons_zero, List.set_cons_succ]
                refine takeW (i := 16) (v := ?v16) rfl (by kernel_rfl) (by kernel_rfl) (by kernel_rfl) (fun _ _ _ h => h) (by kernel_rfl) hHeld ?hy16 ?rest16
                case hy16 => (intro w hSw; (try dsimp only at hSw); go_simp; (try with_reducible rfl))
                try simp only [Act.put, List.setIfInBounds_toArray, List.set_cons_zero, List.set_cons_succ]
                refine takeW (i := 17) (v := ?v17) rfl (by kernel_rfl) (by kernel_rfl) (by kernel_rfl) (fun _ _ _ h => h) (by kernel_rfl) hHeld ?hy17 ?rest17
                case hy17 => (intro w hSw; (try dsimp only at hSw); go_simp; (try with_reducible rfl))
                try simp only [Act.put, List.setIfInBounds_toArray, List.set_cons_zero, List.set_cons_succ]
                refine takeW (i := 18) (v := ?v18) rfl (by kernel_rfl) (by kernel_rfl) (by kernel_rfl) (fun _ _ _ h => h) (by kernel_rfl) hHeld ?hy18 ?rest18
                case hy18 => (intro w hSw; (try dsimp only at hSw); go_simp; (try with_reducible rfl))
                try simp only [Act.put, List.setIfInBounds_toArray, List.set_cons_zero, List.set_cons_succ]
                refine takeW (i := 19) (v := ?v19) rfl (by kernel_rfl) (by kernel_rfl) (by kernel_rfl) (fun _ _ _ h => h) (by kernel_rfl) hHeld ?hy19 ?rest19
                case hy19 => (intro w hSw; (try dsimp only at hSw); go_simp; (try with_reducible rfl))
                try simp only [Act.put, List.setIfInBounds_toArray, List.set_cons_zero, List.set_cons_succ]
                refine wpAnyH_ready (rs := [12, 20]) (by kernel_rfl) (by simp) ?_
                refine consL rfl (by kernel_rfl) (fun K hK => ?bA20) (consL rfl (by kernel_rfl) (fun K hK => ?bB20) AllReadyH.nil)
                case bA20 =>
                  go_simp
                  refine hK.out _ _ (hS0) (fun hHeld => ?_)
                  clear hK K
                  try simp only [Act.put, List.setIfInBounds_toArray, List.set_cons_zero, List.set_cons_succ]
                  refine wpAnyH_ready (rs := [20]) (by kernel_rfl) (by simp) ?_
                  refine consL rfl (by kernel_rfl) (fun K hK => ?_) AllReadyH.nil
                  go_simp
                  refine hK.out _ _ (hSa) (fun hHeld => ?_)
                  clear hK K
                  try simp only [Act.put, List.setIfInBounds_toArray, List.set_cons_zero, List.set_cons_succ]
                  refine wpAnyH_ready (rs := [21]) (by kernel_rfl) (by simp) ?_
                  refine consL rfl (by kernel_rfl) (fun K hK => ?_) AllReadyH.nil
                  (refine wp_append_lies (w := (wr.alloc (.cells #[.string s, .int .i64 (ix : Int)] 34)).drew) (.tmp 78) (.tmp 86) 44 rfl W.heap.size 34 i0 (.agg #[.string ⟨#[]⟩, .int .i64 0]) 2 24 Tryz.underlying44 hi hz0 hz1 hz2 rfl (by decide) r.2 (Dx m).length (prtC (Dx m)) (by simp [Act.eval]) hrow ⟨wr.heap.size, 0, none⟩ 1 1 [.string s, .int .i64 (ix : Int)] (by simp [Act.eval]) rfl hnw (by simp [Value.oneCell']) (by decide) (by unfold maxLen; omega) (by omega) (by simp; omega) (wr.heap.size + 1) (by simp) ?_; intro g2 cap2 w4 hown4 hgrow4 hg4 hlt4; obtain ⟨k1, k2, k3, k4, k5, k7, k6⟩ := HAP.out g2 cap2 w4 hown4 hgrow4 hg4; have hS4 := HKS.out _ k7.out.1 k7.out.2; have hS5 := HKS.out _ k6.out.st.bel k6.out.tak)
                  refine hK.out _ _ (hS4) (fun hHeld => ?_)
                  clear hK K
                  try simp only [Act.put, List.setIfInBounds_toArray, List.set_cons_zero, List.set_cons_succ]
                  refine takeW (i := 22) (v := ?v21) rfl (by kernel_rfl) (by kernel_rfl) (by kernel_rfl) (fun _ _ _ h => h) (by kernel_rfl) hHeld ?hy21 ?rest21
                  case hy21 => (intro w hSw; (try dsimp only at hSw); go_simp; (try with_reducible rfl))
                  try simp only [Act.put, List.setIfInBounds_toArray, List.set_cons_zero, List.set_cons_succ]
                  refine takeW (i := 23) (v := ?v22) rfl (by kernel_rfl) (by kernel_rfl) (by kernel_rfl) (fun _ _ _ h => h) (by kernel_rfl) hHeld ?hy22 ?rest22
                  case hy22 => (intro w hSw; (try dsimp only at hSw); go_simp; (try with_reducible rfl))
                  try simp only [Act.put, List.setIfInBounds_toArray, List.set_cons_zero, List.set_cons_succ]
                  refine wpAnyH_ready (rs := [24]) (by kernel_rfl) (by simp) ?_
                  refine consL rfl (by kernel_rfl) (fun K hK => ?_) AllReadyH.nil
                  go_simp
                  refine hK.out _ _ (hS5) (fun hHeld => ?_)
                  clear hK K
                  try simp only [Act.put, List.setIfInBounds_toArray, List.set_cons_zero, List.set_cons_succ]
                  refine wpAnyH_done (by kernel_rfl) ?_ _
                  go_wp2_with fail
                  go_roundw
                  case rel => exact ⟨y + 1, _, by go_num, hyk, by rw [HOA.out]; go_num, k6.out⟩
                  case measure => simp [intOf]; omega
                case bB20 =>
                  go_simp
                  refine hK.out _ _ (hSa) (fun hHeld => ?_)
                  clear hK K
                  try simp only [Act.put, List.setIfInBounds_toArray, List.set_cons_zero, List.set_cons_succ]
                  refine wpAnyH_ready (rs := [12]) (by kernel_rfl) (by simp) ?_
                  refine consL rfl (by kernel_rfl) (fun K hK => ?_) AllReadyH.nil
                  go_simp
                  refine hK.out _ _ (hSa) (fun hHeld => ?_)
                  clear hK K
                  try simp only [Act.put, List.setIfInBounds_toArray, List.set_cons_zero, List.set_cons_succ]
                  refine wpAnyH_ready (rs := [21]) (by kernel_rfl) (by simp) ?_
                  refine consL rfl (by kernel_rfl) (fun K hK => ?_) AllReadyH.nil
                  (refine wp_append_lies (w := (wr.alloc (.cells #[.string s, .int .i64 (ix : Int)] 34)).drew) (.tmp 78) (.tmp 86) 44 rfl W.heap.size 34 i0 (.agg #[.string ⟨#[]⟩, .int .i64 0]) 2 24 Tryz.underlying44 hi hz0 hz1 hz2 rfl (by decide) r.2 (Dx m).length (prtC (Dx m)) (by simp [Act.eval]) hrow ⟨wr.heap.size, 0, none⟩ 1 1 [.string s, .int .i64 (ix : Int)] (by simp [Act.eval]) rfl hnw (by simp [Value.oneCell']) (by decide) (by unfold maxLen; omega) (by omega) (by simp; omega) (wr.heap.size + 1) (by simp) ?_; intro g2 cap2 w4 hown4 hgrow4 hg4 hlt4; obtain ⟨k1, k2, k3, k4, k5, k7, k6⟩ := HAP.out g2 cap2 w4 hown4 hgrow4 hg4; have hS4 := HKS.out _ k7.out.1 k7.out.2; have hS5 := HKS.out _ k6.out.st.bel k6.out.tak)
                  refine hK.out _ _ (hS4) (fun hHeld => ?_)
                  clear hK K
                  try simp only [Act.put, List.setIfInBounds_toArray, List.set_cons_zero, List.set_cons_succ]
                  refine takeW (i := 22) (v := ?v23) rfl (by kernel_rfl) (by kernel_rfl) (by kernel_rfl) (fun _ _ _ h => h) (by kernel_rfl) hHeld ?hy23 ?rest23
                  case hy23 => (intro w hSw; (try dsimp only at hSw); go_simp; (try with_reducible rfl))
                  try simp only [Act.put, List.setIfInBounds_toArray, List.set_cons_zero, List.set_cons_succ]
                  refine takeW (i := 23) (v := ?v24) rfl (by kernel_rfl) (by kernel_rfl) (by kernel_rfl) (fun _ _ _ h => h) (by kernel_rfl) hHeld ?hy24 ?rest24
                  case hy24 => (intro w hSw; (try dsimp only at hSw); go_simp; (try with_reducible rfl))
                  try simp only [Act.put, List.setIfInBounds_toArray, List.set_cons_zero, List.set_cons_succ]
                  refine wpAnyH_ready (rs := [24]) (by kernel_rfl) (by simp) ?_
                  refine consL rfl (by kernel_rfl) (fun K hK => ?_) AllReadyH.nil
                  go_simp
                  refine hK.out _ _ (hS5) (fun hHeld => ?_)
                  clear hK K
                  try simp only [Act.put, List.setIfInBounds_toArray, List.set_cons_zero, List.set_cons_succ]
                  refine wpAnyH_done (by kernel_rfl) ?_ _
                  go_wp2_with fail
                  go_roundw
                  case rel => exact ⟨y + 1, _, by go_num, hyk, by rw [HOA.out]; go_num, k6.out⟩
                  case measure => simp [intOf]; omega
              · have hyy : y = rowN n L.length x := by omega
                subst hyy
                have HJ : Hid (RrI W S (.slice B S.length e0) A3 c3 L (dealK L s n D0 (x + 1)) R2 wr) := Lib.hid (by rw [HDK.out, ← chunk_all hxk]; exact hJ)
                have HOF : Hid (offN n L.length x + rowN n L.length x = offN n L.length (x + 1)) := Lib.hid (by rw [offN_succ])
                have hyi : ¬ ((rowN n L.length x : Nat) : Int) < (rowN n L.length x : Int) := by omega
                clear hJ HI
                go_wp2_with fail
                go_roundw
                case rel => exact ⟨x + 1, R2, by go_num, hxk, by rw [HOF.out], HJ.out⟩
                case measure => simp [intOf]; omega
        · have hxx : x = L.length := by omega
          subst hxx
          rw [← HDS.out, ← HSU.out] at hI
          have HQ := Lib.hid hI.st
          clear hI HI
          go_wp2_with fail
          go_roundw
          case rel => exact ⟨k + 1, R', by go_num, hk, HQ.out⟩
          case measure => simp [intOf]; omega
    · have hkk : k = T.length := by omega
      subst hkk
      have HQ : Hid (RgS W S (.slice B S.length e0) (rangeD S T) R wr) := Lib.hid (by have := HP.out; rwa [List.take_length] at this)
      clear HP
      go_wp2_with fail
      go_ret2
      exact ⟨B, e0, R, rfl, HQ.out.sh, HQ.out.mem, HQ.out.bel⟩
end Go.Proofs.YtlokhhjhckiloaaGreat
/- the document's group: Join, by a contract. No condition but that numbers are small. -/
namespace Go.Proofs.YtlokhhjhckiloaaGreat
open Go.RowKit
set_option linter.unusedVariables false
theorem KIs.joined {w : World} {B p g c : Nat} {R : List MV} {G : GD} {k : Nat} {T : List ByteArray} {A : Option Addr} {c2 : Nat} (h : KIs w B p (.slice (some ⟨g, 0, none⟩) R.length c) R G) (hk : k < R.length) (now : Int) (hT : w.ownsRow B 9 1 (.slice A T.length c2) T.length (strC T)) :
    ∃ R', R'.length = R.length ∧ KIs (((w.setCell ⟨g, k * 5 + 1, none⟩ (.slice A T.length c2)).setCell ⟨g, k * 5 + 3, none⟩ (.bool true)).setCell ⟨g, k * 5 + 2, none⟩ (.int .i64 (now + G.ss))) B p (.slice (some ⟨g, 0, none⟩) R.length c) R' (joinAt k T now G) ∧
      Off (GrS p (.slice (some ⟨g, 0, none⟩) R.length c)) w (((w.setCell ⟨g, k * 5 + 1, none⟩ (.slice A T.length c2)).setCell ⟨g, k * 5 + 3, none⟩ (.bool true)).setCell ⟨g, k * 5 + 2, none⟩ (.int .i64 (now + G.ss))) := by
  obtain ⟨x, hx⟩ : ∃ x, R[k]? = some x := ⟨_, List.getElem?_eq_getElem hk⟩
  obtain ⟨h1, o1⟩ := h.field rfl hx (y := ⟨{ x.d with T := T }, .slice A T.length c2, x.pv⟩) 1 (.slice A T.length c2) (by decide) rfl (.inr hT) (.inl ⟨rfl, rfl⟩)
  have hx1 : (R.set k ⟨{ x.d with T := T }, .slice A T.length c2, x.pv⟩)[k]? = some ⟨{ x.d with T := T }, .slice A T.length c2, x.pv⟩ := by rw [List.getElem?_set_self hk]
  obtain ⟨h2, o2⟩ := h1.field (List.length_set ..) hx1 (y := ⟨{ x.d with T := T, j := true }, .slice A T.length c2, x.pv⟩) 3 (.bool true) (by decide) rfl (.inl ⟨rfl, rfl⟩) (.inl ⟨rfl, rfl⟩)
  rw [List.set_set] at h2
  have hx2 : (R.set k ⟨{ x.d with T := T, j := true }, .slice A T.length c2, x.pv⟩)[k]? = some ⟨{ x.d with T := T, j := true }, .slice A T.length c2, x.pv⟩ := by rw [List.getElem?_set_self hk]
  obtain ⟨h3, o3⟩ := h2.field (List.length_set ..) hx2 (y := ⟨{ x.d with T := T, j := true, u := now + G.ss }, .slice A T.length c2, x.pv⟩) 2 (.int .i64 (now + G.ss)) (by decide) rfl (.inl ⟨rfl, rfl⟩) (.inl ⟨rfl, rfl⟩)
  rw [List.set_set] at h3
  have hL : G.L[k]? = some x.d := by rw [← h.abs, List.getElem?_map, hx]; rfl
  have e : joinAt k T now G = { G with L := G.L.set k { x.d with T := T, j := true, u := now + G.ss } } := by unfold joinAt; rw [hL]
  rw [e]
  refine ⟨R.set k ⟨{ x.d with T := T, j := true, u := now + G.ss }, .slice A T.length c2, x.pv⟩, by rw [List.length_set], by simpa [List.set_set] using h3, (o1.trans o2 (fun _ _ e => e)).trans o3 (fun _ _ e => e)⟩

theorem step_append_run {P : Program} {w w' : World} {ops : Array Oper} {o : Oper} {a : Act} {K : Act → World → Prop} {Q : Exit → Act → World → Prop} {E : Prop} (hgd : o.guard = none) (s x : Operand) (t : TypeId) (ho : o.op = .call { callee := .builtin .append, args := #[s, x], argTypes := #[t, t] })
    (v u v' : Value) (hs : a.eval s = v) (hx : a.eval x = u) (hr : (Builtin.append_ #[t, t] o.type #[v, u]).run P w = .ok v' w') (h : K (a.put o.dst v') w') : if Region.wanted o (yielded ops a.tmps) = true then Oper.wp P o a w K Q else E := by
  have hw : Region.wanted o (yielded ops a.tmps) = true := by simp [Region.wanted, hgd]
  rw [if_pos hw]
  unfold Oper.wp execOp
  simp only [ho, resolve, invoke, builtin, Sem.run_bind, Sem.run_pure, Result.andThen_ok, List.map_toArray, List.map_cons, List.map_nil, hs, hx, hr]
  exact h
theorem str_src {w : World} {A : Option Addr} {T : List ByteArray} {c : Nat} (h : StrIn w A T) (hA : A = none → T = []) : SrcZ 1 w (.slice A T.length c) T.length (strC T) := by
  cases A with
  | none =>
    have := hA rfl
    subst this
    exact .inl ⟨c, rfl, rfl, rfl⟩
  | some a =>
    refine .inr ⟨a, c, rfl, strC_len T, fun j y hy => ?_⟩
    have hj : j < T.length := by have := (List.getElem?_eq_some_iff.1 hy).1; rwa [strC_len, Nat.mul_one] at this
    obtain ⟨b, off, e, hlt, hc⟩ := h (by omega)
    injection e with e
    subst e
    rw [add_spot]
    have hT : T[j]? = some T[j] := List.getElem?_eq_getElem hj
    have : y = .string T[j] := by
      unfold strC at hy
      rw [List.getElem?_map, hT] at hy
      simpa using hy.symm
    rw [this]
    exact hc j _ hT
theorem strC_one (T : List ByteArray) : ∀ u ∈ strC T, u.oneCell' = true := by
  intro u hu
  obtain ⟨x, _, rfl⟩ := List.mem_map.1 hu
  rfl
/-- Topics, taken anew by an append to nil. -/
theorem str_cat {w : World} {A : Option Addr} {T : List ByteArray} {c : Nat} (h : StrIn w A T) (hA : A = none → T = []) (hl : T.length ≤ 100000) : ∃ (A' : Option Addr) (c' : Nat) (w' : World), (Builtin.append_ #[31, 31] 31 #[.slice none 0 0, .slice A T.length c]).run Tryz.prog w = .ok (.slice A' T.length c') w' ∧ w'.ownsRow w.heap.size 9 1 (.slice A' T.length c') T.length (strC T) ∧ Below w.heap.size w w' := by
  obtain ⟨A', c', w', h1, h2, h3⟩ := catZ (by decide) Tryz.underlying31 infoStr rfl (by decide) (World.ownsRow_nil w w.heap.size 9 1) (str_src h hA) (strC_one T) (Nat.le_refl _) (by omega)
  rw [Nat.zero_add] at h1 h2
  rw [List.nil_append] at h2
  exact ⟨A', c', w', h1, h2, (Below.refl _ w).grown h3 (Nat.le_refl _) (fun j hj => by cases hj)⟩
/-- The group behind the nil. -/
theorem KIs.bare {w : World} {B p g c : Nat} {R : List MV} {G : GD} {k : Nat} (h : KIs w B p (.slice (some ⟨g, 0, none⟩) R.length c) R G) (hk : k < R.length) (T : List ByteArray) (now : Int) :
    ∃ R' G', R'.length = R.length ∧ KIs (w.setCell ⟨g, k * 5 + 1, none⟩ (.slice none 0 0)) B p (.slice (some ⟨g, 0, none⟩) R.length c) R' G' ∧ Off (GrS p (.slice (some ⟨g, 0, none⟩) R.length c)) w (w.setCell ⟨g, k * 5 + 1, none⟩ (.slice none 0 0)) ∧ joinAt k T now G' = joinAt k T now G ∧ G'.ss = G.ss ∧ (w.setCell ⟨g, k * 5 + 1, none⟩ (.slice none 0 0)).cell? ⟨g, k * 5 + 1, none⟩ = some (.slice none 0 0) := by
  obtain ⟨x, hx⟩ : ∃ x, R[k]? = some x := ⟨_, List.getElem?_eq_getElem hk⟩
  obtain ⟨h1, o1⟩ := h.field rfl hx (y := ⟨{ x.d with T := [] }, .slice none 0 0, x.pv⟩) 1 (.slice none 0 0) (by decide) rfl (.inr (World.ownsRow_nil _ _ _ _)) (.inl ⟨rfl, rfl⟩)
  have hq : (w.setCell ⟨g, k * 5 + 1, none⟩ (.slice none 0 0)).cell? ⟨g, k * 5 + 1, none⟩ = some (.slice none 0 0) := by
    obtain ⟨g', c', e, _, _, _, _, q1, _⟩ := h1.at_ (List.getElem?_set_self hk)
    have hgg : g = g' := by simpa [Value.ownBlock] using congrArg Value.ownBlock e
    subst hgg
    exact q1
  refine ⟨_, _, by rw [List.length_set], h1, o1, ?_, rfl, hq⟩
  have hL : G.L[k]? = some x.d := by rw [← h.abs, List.getElem?_map, hx]; rfl
  have hkL : k < G.L.length := (List.getElem?_eq_some_iff.1 hL).1
  unfold joinAt
  rw [hL]
  show (match (G.L.set k { x.d with T := [] })[k]? with | some y => _ | none => _) = _
  rw [List.getElem?_set_self hkL]
  show GD.mk _ _ _ _ ((G.L.set k _).set k _) _ _ = _
  rw [List.set_set]
theorem kAt {w : World} {B p g c : Nat} {R : List MV} {G : GD} {k : Nat} (h : KIs w B p (.slice (some ⟨g, 0, none⟩) R.length c) R G) (hk : k < R.length) : ∃ x u, R[k]? = some x ∧ w.cell? ⟨p, 6, none⟩ = some (.slice (some ⟨g, 0, none⟩) R.length c) ∧ w.cell? ⟨p, 0, none⟩ = some (.int .i64 G.ss) ∧ w.cell? ⟨g, k * 5 + 1, none⟩ = some x.tv ∧ w.cell? ⟨g, k * 5 + 2, none⟩ = some (.int .i64 u) ∧ w.cell? ⟨g, k * 5 + 3, none⟩ = some (.bool x.d.j) ∧ (w.frozen? ⟨g, k * 5 + 1, none⟩ = false ∧ w.frozen? ⟨g, k * 5 + 2, none⟩ = false ∧ w.frozen? ⟨g, k * 5 + 3, none⟩ = false) ∧ p < w.heap.size ∧ g < w.heap.size ∧ g ≠ p := by
  obtain ⟨x, hx⟩ : ∃ x, R[k]? = some x := ⟨_, List.getElem?_eq_getElem hk⟩
  obtain ⟨g', c', e, hgl, _, hgp, _, q1, q2, q3, _, hf⟩ := h.at_ hx
  have hgg : g = g' := by simpa [Value.ownBlock] using congrArg Value.ownBlock e
  subst hgg
  exact ⟨x, x.d.u, hx, (h.box.cell 6).trans rfl, (h.box.cell 0).trans rfl, q1, q2, q3, ⟨hf _, hf _, hf _⟩, h.box.lt, hgl, hgp⟩
/-- Under way. -/
structure KjS (W : World) (B p : Nat) (v0 : Value) (G : GD) (v : Value) (R : List MV) (w : World) : Prop where
  is : KIs w B p v R G
  off : Off (GrS p v0) W w
  val : ∀ k, v.ownBlock = some k → v0.ownBlock = some k ∨ W.heap.size ≤ k
theorem KjS.str {W w w3 w4 : World} {B p : Nat} {v0 v : Value} {G : GD} {R : List MV} {A : Option Addr} {T : List ByteArray} (h : KjS W B p v0 G v R w) (hb : Below w.heap.size w w3) (ho : Off (GrS p v) w3 w4) (hT : StrIn W A T) (hS : 0 < T.length → ∀ a, A = some a → ¬ GrS p v0 a.block) : StrIn w4 A T :=
  ((hT.off h.off hS).below hb).off ho (fun hp a ha hs => by
    obtain ⟨b, off, e, hlt, _⟩ := hT hp
    rw [ha] at e
    injection e with e
    subst e
    rcases hs with e | e
    · exact hS hp _ ha (.inl e)
    · rcases h.val _ e with e2 | e2
      · exact hS hp _ ha (.inr e2)
      · exact absurd hlt (Nat.not_lt.2 e2))
/-- The group behind Topics, Joined and Until. -/
theorem KIs.joined3 {w : World} {B p g c : Nat} {R : List MV} {G : GD} {k : Nat} {T : List ByteArray} {A : Option Addr} {c2 : Nat} (h : KIs w B p (.slice (some ⟨g, 0, none⟩) R.length c) R G) (hk : k < R.length) (now : Int) (hT : w.ownsRow B 9 1 (.slice A T.length c2) T.length (strC T)) :
    ∃ R1 G1, R1.length = R.length ∧ G1.ss = G.ss ∧ KIs ((w.setCell ⟨g, k * 5 + 1, none⟩ (.slice A T.length c2)).setCell ⟨g, k * 5 + 3, none⟩ (.bool true)) B p (.slice (some ⟨g, 0, none⟩) R.length c) R1 G1 ∧
      Off (GrS p (.slice (some ⟨g, 0, none⟩) R.length c)) w ((w.setCell ⟨g, k * 5 + 1, none⟩ (.slice A T.length c2)).setCell ⟨g, k * 5 + 3, none⟩ (.bool true)) ∧
      ∀ w7, KIs w7 B p (.slice (some ⟨g, 0, none⟩) R.length c) R1 G1 → ∃ R', R'.length = R.length ∧ KIs (w7.setCell ⟨g, k * 5 + 2, none⟩ (.int .i64 (now + G.ss))) B p (.slice (some ⟨g, 0, none⟩) R.length c) R' (joinAt k T now G) ∧
      Off (GrS p (.slice (some ⟨g, 0, none⟩) R.length c)) w7 (w7.setCell ⟨g, k * 5 + 2, none⟩ (.int .i64 (now + G.ss))) := by
  obtain ⟨x, hx⟩ : ∃ x, R[k]? = some x := ⟨_, List.getElem?_eq_getElem hk⟩
  obtain ⟨h1, o1⟩ := h.field rfl hx (y := ⟨{ x.d with T := T }, .slice A T.length c2, x.pv⟩) 1 (.slice A T.length c2) (by decide) rfl (.inr hT) (.inl ⟨rfl, rfl⟩)
  have hx1 : (R.set k ⟨{ x.d with T := T }, .slice A T.length c2, x.pv⟩)[k]? = some ⟨{ x.d with T := T }, .slice A T.length c2, x.pv⟩ := by rw [List.getElem?_set_self hk]
  obtain ⟨h2, o2⟩ := h1.field (List.length_set ..) hx1 (y := ⟨{ x.d with T := T, j := true }, .slice A T.length c2, x.pv⟩) 3 (.bool true) (by decide) rfl (.inl ⟨rfl, rfl⟩) (.inl ⟨rfl, rfl⟩)
  rw [List.set_set] at h2
  have hx2 : (R.set k ⟨{ x.d with T := T, j := true }, .slice A T.length c2, x.pv⟩)[k]? = some ⟨{ x.d with T := T, j := true }, .slice A T.length c2, x.pv⟩ := by rw [List.getElem?_set_self hk]
  have hL : G.L[k]? = some x.d := by rw [← h.abs, List.getElem?_map, hx]; rfl
  have e : joinAt k T now G = { G with L := G.L.set k { x.d with T := T, j := true, u := now + G.ss } } := by unfold joinAt; rw [hL]
  refine ⟨_, _, ?_, ?_, h2, o1.trans o2 (fun _ _ e => e), fun w7 h7 => ?_⟩
  · rw [List.length_set]
  · rfl
  obtain ⟨h3, o3⟩ := h7.field (List.length_set ..) hx2 (y := ⟨{ x.d with T := T, j := true, u := now + G.ss }, .slice A T.length c2, x.pv⟩) 2 (.int .i64 (now + G.ss)) (by decide) rfl (.inl ⟨rfl, rfl⟩) (.inl ⟨rfl, rfl⟩)
  rw [List.set_set] at h3
  rw [e]
  refine ⟨R.set k ⟨{ x.d with T := T, j := true, u := now + G.ss }, .slice A T.length c2, x.pv⟩, by rw [List.length_set], by simpa [List.set_set] using h3, o3⟩
theorem KIs.ss_at {w : World} {B p : Nat} {v : Value} {R : List MV} {G : GD} (h : KIs w B p v R G) : w.cell? ⟨p, 0, none⟩ = some (.int .i64 G.ss) := (h.box.cell 0).trans rfl
set_option maxHeartbeats 16000000 in
set_option maxRecDepth 100000 in
theorem kjoin_c (B p : Nat) (v : Value) (R : List MV) (G : GD) (m now : Int) (T : List ByteArray) (A : Option Addr) (c : Nat) (W : World) (h : KIs W B p v R G) (hG : GBd G) (hl : G.L.length ≤ 20) (hgn : 0 ≤ G.gn ∧ G.gn ≤ 999999) (hnx : 0 ≤ G.nx ∧ G.nx ≤ 999999) (hBW : B ≤ W.heap.size)
    (hT : StrIn W A T) (hTA : A = none → T = []) (hTl : T.length ≤ 140737488351232) (hTz : ∀ s ∈ T, s.size ≤ 281474976710656) (hTS : 0 < T.length → ∀ a, A = some a → ¬ GrS p v a.block) :
    Calls Tryz.prog 55 #[.pointer (some ⟨p, 0, none⟩), .int .i64 m, .slice A T.length c, .int .i64 now] W (KWr B p v W (joinD m T now G) (.tuple #[.int .i64 (if joinE m T now G = 0 then joinM m G else 0), .int .i64 (joinE m T now G)])) := by
  obtain ⟨i0, hi, hz0, hz1, hz2⟩ := info_parts koneInfo
  have ct := fun w => ktime_c now w
  have cw := krises_c T A c W hT hTl
  have HI := Lib.hid h
  have HT := Lib.hid hT
  have HTS := Lib.hid hTS
  have HTA := Lib.hid hTA
  clear hTA
  cases ht : timeB now with
  | false =>
    rw [ht] at ct
    have hE : joinE m T now G = 1 := by unfold joinE; rw [ht]; rfl
    have hD : joinD m T now G = G := by unfold joinD; rw [hE]; rfl
    rw [hE, hD, if_neg (by decide)]
    clear h hG ht hT hTS cw hE hD hTz
    go_enter Tryz.func55, Tryz.ntmps55
    go_wp2_with fail
    with_reducible refine (ct _).mono ?_
    rintro e w1 ⟨rfl, hw9⟩
    have hw8 := hw9.symm
    subst hw8
    clear hw9
    go_wp2_with fail
    go_ret2
    exact KWr.mk HI.out (Off.refl _ _) (fun k hk => .inl hk)
  | true =>
    rw [ht] at ct
    have hn := time_bd ht
    cases hr : risesB bL T with
    | false =>
      rw [hr] at cw
      have hw : wantB T = false := by unfold wantB; rw [hr, Bool.and_false]
      have hE : joinE m T now G = 1 := by unfold joinE; rw [ht, hw]; rfl
      have hD : joinD m T now G = G := by unfold joinD; rw [hE]; rfl
      rw [hE, hD, if_neg (by decide)]
      clear h hG ht hT hTS hw hE hD hTz
      go_enter Tryz.func55, Tryz.ntmps55
      go_wp2_with fail
      with_reducible refine (ct _).mono ?_
      rintro e w1 ⟨rfl, hw9⟩
      have hw8 := hw9.symm
      subst hw8
      clear hw9
      go_wp2_with fail
      with_reducible refine cw.mono ?_
      rintro e w1 ⟨rfl, nq1, hq1⟩
      have hb1 : Below W.heap.size W w1 := by rw [hq1]; exact below_drewN (Below.refl _ _) _
      clear hq1
      go_wp2_with fail
      go_ret2
      exact KWr.mk (HI.out.later hb1) (Off.of_below _ hb1) (fun k hk => .inl hk)
    | true =>
      rw [hr] at cw
      by_cases hl20 : 20 < T.length
      · have hw : wantB T = false := by unfold wantB; rw [decide_eq_false (by omega)]; rfl
        have hE : joinE m T now G = 1 := by unfold joinE; rw [ht, hw]; rfl
        have hD : joinD m T now G = G := by unfold joinD; rw [hE]; rfl
        have hl20' : (20 : Int) < (T.length : Int) := by omega
        rw [hE, hD, if_neg (by decide)]
        clear h hG ht hT hTS hw hE hD hTz
        go_enter Tryz.func55, Tryz.ntmps55
        go_wp2_with fail
        with_reducible refine (ct _).mono ?_
        rintro e w1 ⟨rfl, hw9⟩
        have hw8 := hw9.symm
        subst hw8
        clear hw9
        go_wp2_with fail
        with_reducible refine cw.mono ?_
        rintro e w1 ⟨rfl, nq1, hq1⟩
        have hb1 : Below W.heap.size W w1 := by rw [hq1]; exact below_drewN (Below.refl _ _) _
        clear hq1
        go_wp2_with fail
        go_ret2
        exact KWr.mk (HI.out.later hb1) (Off.of_below _ hb1) (fun k hk => .inl hk)
      have hw : wantB T = true := by unfold wantB; rw [hr, decide_eq_true (by omega)]; rfl
      have hl20' : ¬ (20 : Int) < (T.length : Int) := by omega
      by_cases hm1 : m < -1
      · have hE : joinE m T now G = 1 := by unfold joinE; rw [ht, hw, decide_eq_false (by omega)]; rfl
        have hD : joinD m T now G = G := by unfold joinD; rw [hE]; rfl
        rw [hE, hD, if_neg (by decide)]
        clear h hG ht hT hTS hw hE hD hTz
        go_enter Tryz.func55, Tryz.ntmps55
        go_wp2_with fail
        with_reducible refine (ct _).mono ?_
        rintro e w1 ⟨rfl, hw9⟩
        have hw8 := hw9.symm
        subst hw8
        clear hw9
        go_wp2_with fail
        with_reducible refine cw.mono ?_
        rintro e w1 ⟨rfl, nq1, hq1⟩
        have hb1 : Below W.heap.size W w1 := by rw [hq1]; exact below_drewN (Below.refl _ _) _
        clear hq1
        go_wp2_with fail
        go_ret2
        exact KWr.mk (HI.out.later hb1) (Off.of_below _ hb1) (fun k hk => .inl hk)
      have hE0 : joinE m T now G = if m = -1 then (if 20 ≤ G.L.length then 5 else 0) else match posM m G.L with | none => 11 | some _ => 0 := by unfold joinE; rw [ht, hw, decide_eq_true (by omega)]; rfl
      have cf := fun w (hb : Below W.heap.size W w) m' => kfind_c B p v R G m' w (h.later hb) hG.len
      by_cases hmm : m = -1
      · subst hmm
        rw [if_pos rfl] at hE0
        by_cases hfull : 20 ≤ G.L.length
        · rw [if_pos hfull] at hE0
          have hD : joinD (-1) T now G = G := by unfold joinD; rw [hE0]; rfl
          rw [hE0, hD, if_neg (by decide)]
          have hlen : (20 : Int) ≤ (R.length : Int) := by rw [h.len]; omega
          obtain ⟨A9, c9, hv⟩ := own_slice h.row
          subst hv
          clear h hG ht hT hTS hw hE0 hD hTz cf hfull hl
          go_enter Tryz.func55, Tryz.ntmps55
          go_wp2_with fail
          with_reducible refine (ct _).mono ?_
          rintro e w1 ⟨rfl, hw9⟩
          have hw8 := hw9.symm
          subst hw8
          clear hw9
          go_wp2_with fail
          with_reducible refine cw.mono ?_
          rintro e w1 ⟨rfl, nq1, hq1⟩
          have hb1 : Below W.heap.size W w1 := by rw [hq1]; exact below_drewN (Below.refl _ _) _
          clear hq1
          have h1 := HI.out.later hb1
          obtain ⟨b0, b1, b2, b3, b4, b5, b6, bl, _⟩ := kg7 h1.box
          have HB1 := Lib.hid hb1
          clear h1 hb1
          go_wp2_with fail
          go_ret2
          exact KWr.mk (HI.out.later HB1.out) (Off.of_below _ HB1.out) (fun k hk => .inl hk)
        · rw [if_neg hfull] at hE0
          obtain ⟨k0, hk0⟩ := pos_add G
          have hR20 : ¬ (20 : Int) ≤ (R.length : Int) := by rw [h.len]; omega
          have hHG : G.L.length < 20 := by omega
          have hRR : R.length < 20 := by rw [h.len]; omega
          have HE := Lib.hid hE0
          rw [hE0, if_pos rfl, show joinM (-1) G = G.nx from rfl]
          have hG0 := Lib.hid hG
          have hK0 := Lib.hid hk0
          obtain ⟨A9, c9, hv9⟩ := own_slice h.row
          subst hv9
          clear h ht hT hTS hw hE0 cf hfull hl hk0 hG
          go_enter Tryz.func55, Tryz.ntmps55
          go_wp2_with fail
          with_reducible refine (ct _).mono ?_
          rintro e w1 ⟨rfl, hw9⟩
          have hw8 := hw9.symm
          subst hw8
          clear hw9
          go_wp2_with fail
          with_reducible refine cw.mono ?_
          rintro e w1 ⟨rfl, nq1, hq1⟩
          have hb1 : Below W.heap.size W w1 := by rw [hq1]; exact below_drewN (Below.refl _ _) _
          clear hq1
          have h1 := HI.out.later hb1
          have HBx := Lib.hid hb1
          obtain ⟨b0, b1, b2, b3, b4, b5, b6, bl, f2, f3, f4, f5, f6⟩ := kg7 h1.box
          have o1 := Off.one w1 ⟨p, 4, none⟩ (.int .i64 (G.nx + 1))
          have hA1 : Below (w1.setCell ⟨p, 4, none⟩ (.int .i64 (G.nx + 1))).heap.size (w1.setCell ⟨p, 4, none⟩ (.int .i64 (G.nx + 1))) ((w1.setCell ⟨p, 4, none⟩ (.int .i64 (G.nx + 1))).alloc (.cells (mvC (newV G.nx)).toArray 113)) := (Below.refl _ _).alloc (Nat.le_refl _) _
          have h2 := (h1.put (G' := { G with nx := G.nx + 1 }) o1 (h1.box.set 4 (.int .i64 (G.nx + 1))) rfl).later hA1
          have hnews := news_at (Box.new (w1.setCell ⟨p, 4, none⟩ (.int .i64 (G.nx + 1))) 113 (mvC (newV G.nx)).toArray)
          have H1 := Lib.hid h2
          have hrow := h2.row
          have O1 := Lib.hid (o1.later hA1)
          have hsz : B ≤ ((w1.setCell ⟨p, 4, none⟩ (.int .i64 (G.nx + 1))).alloc (.cells (mvC (newV G.nx)).toArray 113)).heap.size := Nat.le_trans (Nat.le_trans hBW hb1.size) O1.out.size
          obtain ⟨x0, x1, x2, x3, x4, x5, x6, xl, y2, y3, y4, y5, y6⟩ := kg7 h2.box
          have hzc : (w1.setCell ⟨p, 4, none⟩ (.int .i64 (G.nx + 1))).heap.size = w1.heap.size := by simp
          rw [hzc] at hnews
          clear h1 h2 o1 hA1 hzc hb1
          unfold mvC newV at hnews hrow H1 O1 hsz x0 x1 x2 x3 x4 x5 x6 xl y2 y3 y4 y5 y6
          dsimp only at hnews hrow H1 O1 hsz x0 x1 x2 x3 x4 x5 x6 xl y2 y3 y4 y5 y6
          go_wp2_with (at_builtin; refine wpList_append_own_at _ rfl _ _ 79 rfl B 113 i0 (.agg #[.int .i64 0, .slice none 0 0, .int .i64 0, .bool false, .slice none 0 0]) 5 72 Tryz.underlying79 hi hz0 hz1 hz2 rfl (by decide) (.slice A9 R.length c9) R.length (mvR R) rfl hrow ⟨w1.heap.size, 0, none⟩ 1 1 [.int .i64 G.nx, .slice none 0 0, .int .i64 0, .bool false, .slice none 0 0] rfl rfl hnews (by simp [Value.oneCell']) (by unfold maxLen; omega) (by omega) hsz ?_)
          intro v' w5 hown' hgrow _ hat
          obtain ⟨A', c', rfl⟩ := own_slice hown'
          have hpb : (Value.slice A9 R.length c9).ownBlock ≠ some p := fun e => own_ne hrow H1.out.box (by decide) p e rfl
          have hp5 := (hgrow.block p xl (fun e => hpb e.symm)).trans H1.out.box
          obtain ⟨b0, b1, b2, b3, b4, b5, b6, bl, f2, f3, f4, f5, f6⟩ := kg7 (show Box w5 p 81 _ from hp5)
          have o2 := (((Off.refl (GrS p (.slice A9 R.length c9)) _).grown hgrow (fun k e _ => .inr e))).set (p := ⟨p, 6, none⟩) (.inl (.inl rfl)) (.slice A' (R.length + 1) c')
          have oT := ((O1.out.mono (fun k _ e => (.inl e : GrS p (.slice A9 R.length c9) k)))).trans o2 (fun k _ e => e)
          have JX : KjS W B p (.slice A9 R.length c9) (addD G) (.slice A' (R.length + 1) c') (R ++ [newV G.nx]) (w5.setCell ⟨p, 6, none⟩ (.slice A' (R.length + 1) c')) := by
            refine ⟨?_, (Off.of_below (GrS p (.slice A9 R.length c9)) HBx.out).trans oT (fun _ _ e => e), fun k hk => ?_⟩
            · refine H1.out.rows2 (S := GrS p (.slice A9 R.length c9)) (G' := addD G) o2 (fun k e => .inl e) (Box.set hp5 6 _) ?_ (fun x hx => ?_) ?_
              · rw [List.length_append, mvR_app]
                exact own_off hown' (Off.one w5 ⟨p, 6, none⟩ _) (fun k hk e => own_ne hown' hp5 (by decide) k hk e)
              · rcases List.mem_append.1 hx with hx | hx
                · exact ⟨.inl ⟨x, hx, rfl, rfl⟩, .inl ⟨x, hx, rfl, rfl⟩⟩
                · have : x = newV G.nx := by simpa using hx
                  subst this
                  exact ⟨.inr (World.ownsRow_nil _ _ _ _), .inr (World.ownsRow_nil _ _ _ _)⟩
              · rw [List.map_append, HI.out.abs]; rfl
            · rcases hat with e | e
              · rw [e] at hk; exact .inl hk
              · rw [e] at hk
                injection hk with hk
                exact .inr (by have := HBx.out.size; omega)
          obtain ⟨v1, R1, J1⟩ : ∃ v1 R1, Hid (KjS W B p (.slice A9 R.length c9) (addD G) v1 R1 (w5.setCell ⟨p, 6, none⟩ (.slice A' (R.length + 1) c'))) := ⟨_, _, Lib.hid JX⟩
          clear JX o2 oT hp5 hpb hown' hgrow hat hnews x0 x1 x2 x3 x4 x5 x6 xl y2 y3 y4 y5 y6 hrow O1 H1
          have HM : Hid (joinM (-1) G = G.nx) := Lib.hid rfl
          have H1D : Hid (join1D (-1) G = addD G) := Lib.hid rfl
          have hG1 : GBd (addD G) := ⟨by show (G.L ++ _).length ≤ 100000; simp; omega, hG0.out.ss, hG0.out.rb⟩
          have hgn1 : 0 ≤ (addD G).gn ∧ (addD G).gn ≤ 1000000 := ⟨hgn.1, by have := hgn.2; show G.gn ≤ 1000000; omega⟩
          have hk1 := hK0.out
          replace b2 : w5.cell? ⟨p, 2, none⟩ = some (.int .i64 (addD G).ph) := b2
          generalize addD G = G1 at *
          have hG1b := hG1
          obtain ⟨G2, hG2e⟩ : ∃ G2, join2D now G1 = G2 := ⟨_, rfl⟩
          have hk2 : posM G.nx G2.L = some k0 := by rw [← hG2e, pos_join2]; exact hk1
          have HD : Hid (joinD (-1) T now G = wholeD now (joinAt k0 T now G2)) := Lib.hid (by unfold joinD; rw [HE.out, if_pos rfl, HM.out, H1D.out, hG2e]; unfold join3D; rw [hk2])
          have hG2 : GBd G2 := by
            rw [← hG2e]
            unfold join2D
            split
            · exact hG1
            · exact hG1.begin now
          have hgn2 : 0 ≤ G2.gn ∧ G2.gn ≤ 1000000 := by
            have e : G2.gn = G1.gn := by
              rw [← hG2e]
              unfold join2D
              split
              · rfl
              · exact beginD_gn _ _
            rw [e]; exact hgn1
          clear hk1 hgn1 HE HM H1D
          by_cases hph : G1.ph = 1
          · have hph' : (G1.ph == 1) = true := by rw [show G1.ph = 1 from hph]; rfl
            have e2 : join2D now G1 = G1 := by unfold join2D; rw [if_pos hph]
            rw [e2] at hG2e
            subst hG2e
            clear e2 hph
            have J2 := J1
            clear J1
            obtain ⟨x2, hx2, _⟩ := pos_at hk2
            have hkR : k0 < R1.length := by rw [J2.out.is.len]; exact (List.getElem?_eq_some_iff.1 hx2).1
            obtain ⟨g2, c2, ev2, -⟩ := J2.out.is.at_ (List.getElem?_eq_getElem hkR)
            subst ev2
            have cfk := fun w hh => kfind_c B p (.slice (some ⟨g2, 0, none⟩) R1.length c2) R1 G1 G.nx w hh hG2.len
            rw [posI_some hk2] at cfk
            have cfk2 := cfk _ J2.out.is
            clear hx2 hk2 cfk
            go_wp2_with fail
            with_reducible refine cfk2.mono ?_
            rintro e w3 ⟨rfl, hb3⟩
            have I3 := Lib.hid (J2.out.is.later hb3)
            have O3 := Lib.hid (J2.out.off.later hb3)
            obtain ⟨R4, G4, hR4, h4, o4, hj4, hs4, hq4⟩ := I3.out.bare hkR T now
            have T4 := Lib.hid (J2.out.str hb3 o4 HT.out HTS.out)
            obtain ⟨x3, u3, _, q6, q0, q1, q2, q3, ⟨qf1, qf2, qf3⟩, qpl, qgl, qgp⟩ := kAt I3.out hkR
            have H4 := Lib.hid h4
            have O4 := Lib.hid (O3.out.two o4 J2.out.val)
            clear hb3 cfk2 b0 b1 b2 b3 b4 b5 b6 bl
            have hkR4 : k0 < R4.length := by rw [hR4]; exact hkR
            go_wp2_with fail
            obtain ⟨W4, hW4⟩ : ∃ W4, w3.setCell ⟨g2, k0 * 5 + 1, none⟩ (.slice none 0 0) = W4 := ⟨_, rfl⟩
            rw [hW4] at H4 O4 T4 hq4 ⊢
            rw [← hR4] at H4
            have V4 : Hid (∀ k, (Value.slice (some ⟨g2, 0, none⟩) R4.length c2).ownBlock = some k → (Value.slice A9 R.length c9).ownBlock = some k ∨ W.heap.size ≤ k) := Lib.hid (by rw [hR4]; exact J2.out.val)
            clear hW4 q6 q0 q1 q2 q3 qf1 qf2 qf3 qpl qgl h4 o4
            have hbd : Below W4.heap.size W4 W4.drew := (Below.refl _ _).drew
            have h4d := H4.out.later hbd
            obtain ⟨x4, u4, -, d6, d0, -, d2, d3, ⟨df1, df2, df3⟩, dpl, dgl, dgp⟩ := kAt h4d hkR4
            have d1 : W4.drew.cell? ⟨g2, k0 * 5 + 1, none⟩ = some (.slice none 0 0) := hq4
            have hTl5 : T.length ≤ 100000 := by omega
            obtain ⟨A5, c5, w5, hrun5, hown5, hb5⟩ := str_cat (c := c) (T4.out.below hbd) HTA.out hTl5
            have h5 := h4d.later hb5
            obtain ⟨x5, u5, -, e6, e0, -, e2, e3, ⟨ef1, ef2, ef3⟩, epl, egl, egp⟩ := kAt h5 hkR4
            have e1 : w5.cell? ⟨g2, k0 * 5 + 1, none⟩ = some (.slice none 0 0) := (cell_later ⟨d1, dgl⟩ hb5).1
            have H5 := Lib.hid h5
            have HOW := Lib.hid hown5
            have HB5 := Lib.hid (hbd.trans (hb5.mono hbd.size))
            clear h4d hbd hown5 hb5 h5
            have hss2 : G4.ss = G1.ss := hs4
            obtain ⟨R6, G6, hR6, hs6, h6, o6, hfin⟩ := H5.out.joined3 hkR4 now (own_base2 HOW.out (Nat.le_trans hBW O4.out.size))
            rw [hss2, hj4] at hfin
            have HFIN := Lib.hid hfin
            have H6 := Lib.hid h6
            have HS6 : Hid (G6.ss = G1.ss) := Lib.hid (hs6.trans hss2)
            have HR6 := Lib.hid hR6
            have HGJ := Lib.hid (hG1.joinAt k0 T now)
            have HGN : Hid (0 ≤ (joinAt k0 T now G1).gn ∧ (joinAt k0 T now G1).gn ≤ 1000000) := Lib.hid (by rw [joinAt_gn]; exact hgn2)
            have hw : IntKind.i64.wrap (now + G1.ss) = now + G1.ss := by have := hG1.ss; rw [IntKind.wrap_i64]; omega
            have O6 := Lib.hid ((O4.out.later HB5.out).two o6 V4.out)
            clear h6 o6 hfin hs6 hR6 hj4 hs4 hss2
            generalize joinAt k0 T now G1 = G8 at *
            have HGJb := HGJ.out
            have HKR := Lib.hid hkR4
            generalize hi5 : k0 * 5 = i5 at *
            go_region_law (refine step_append_run rfl (.tmp 96) (.tmp 97) 31 rfl (.slice none 0 0) (.slice A T.length c) (.slice A5 T.length c5) (by simp [Act.eval]) (by simp [Act.eval]) hrun5 ?_)
            all_goals
              clear hrun5 d6 d0 d1 d2 d3 df1 df2 df3 dpl dgl dgp
              go_wp2_with fail
              obtain ⟨W6, hW6⟩ : ∃ W6, (w5.setCell ⟨g2, i5 + 1, none⟩ (.slice A5 T.length c5)).setCell ⟨g2, i5 + 3, none⟩ (.bool true) = W6 := ⟨_, rfl⟩
              rw [hW6] at H6 O6 ⊢
              clear hW6 e6 e0 e1 e2 e3 ef1 ef2 ef3 epl egl egp
              have hbd : Below W6.heap.size W6 W6.drew := (Below.refl _ _).drew
              obtain ⟨R8, hR8, h8a, o8a⟩ := HFIN.out _ H6.out
              have hbd8 : Below (W6.setCell ⟨g2, i5 + 2, none⟩ (.int .i64 (now + G1.ss))).heap.size (W6.setCell ⟨g2, i5 + 2, none⟩ (.int .i64 (now + G1.ss))) (W6.setCell ⟨g2, i5 + 2, none⟩ (.int .i64 (now + G1.ss))).drew := (Below.refl _ _).drew
              have h8 := h8a.later hbd8
              have o8 := o8a.later hbd8
              have h6d := H6.out.later hbd
              rw [← HR6.out] at h6d
              have hkR6 : k0 < R6.length := by rw [HR6.out]; exact hkR4
              obtain ⟨x6, u6, -, s6, s0, -, s2, s3, ⟨sf1, sf2, sf3⟩, spl, sgl, sgp⟩ := kAt h6d hkR6
              rw [HS6.out] at s0
              rw [hi5] at s2 s3 sf1 sf2 sf3
              have O8 := Lib.hid (O6.out.two o8 V4.out)
              have ca := kall_c B p _ R8 G8 _ h8 HGJb.len
              have H8 := Lib.hid h8
              clear h8 o8 hbd h6d hR8 h8a o8a hbd8
              go_region
              all_goals
                clear s6 s0 s2 s3 sf1 sf2 sf3 spl sgl sgp
                cases hA : G8.L.any (fun x => !x.j) with
                | true =>
                  rw [hA] at ca
                  go_wp2_with fail
                  with_reducible refine ca.mono ?_
                  rintro e w9 ⟨rfl, hb9⟩
                  go_wp2_with fail
                  go_ret2
                  exact ⟨rfl, .slice (some ⟨g2, 0, none⟩) R4.length c2, R8, by rw [HD.out]; unfold wholeD; rw [if_pos hA]; exact H8.out.later hb9, O8.out.later hb9, V4.out⟩
                | false =>
                  rw [hA] at ca
                  go_wp2_with fail
                  with_reducible refine ca.mono ?_
                  rintro e w9 ⟨rfl, hb9⟩
                  have O9 := Lib.hid (O8.out.later hb9)
                  have cc9 := kclose_c B p _ R8 G8 now _ (H8.out.later hb9) HGJb (Nat.le_trans hBW O9.out.size) hn HGN.out
                  clear hb9
                  go_wp2_with fail
                  with_reducible refine cc9.mono ?_
                  rintro e w10 ⟨rfl, v10, R10, h10, o10, hv10⟩
                  go_wp2_with fail
                  go_ret2
                  exact ⟨rfl, v10, R10, by rw [HD.out]; unfold wholeD; rw [if_neg (by rw [hA]; decide)]; exact h10, O9.out.two o10 V4.out, own_two2 O9.out.size V4.out hv10⟩
          · have hph' : (G1.ph == 1) = false := beq_eq_false_iff_ne.2 hph
            have e2 : join2D now G1 = beginD now G1 := by unfold join2D; rw [if_neg hph]
            rw [e2] at hG2e
            clear e2 hph
            have cb := kanew_c B p _ _ _ now _ J1.out.is hG1 hn
            rw [hG2e] at cb
            clear hG2e
            go_wp2_with fail
            with_reducible refine cb.mono ?_
            rintro e w2 ⟨rfl, v2, R2, h2, o2, hv2⟩
            have J2 : Hid (KjS W B p (.slice A9 R.length c9) G2 v2 R2 w2) := Lib.hid ⟨h2, J1.out.off.two o2 J1.out.val, own_two2 J1.out.off.size J1.out.val hv2⟩
            clear h2 o2 hv2 cb J1 b0 b1 b2 b3 b4 b5 b6 bl f2 f3 f4 f5 f6
            obtain ⟨b0, b1, b2, b3, b4, b5, b6, bl, _⟩ := kg7 J2.out.is.box
            obtain ⟨x2, hx2, _⟩ := pos_at hk2
            have hkR : k0 < R2.length := by rw [J2.out.is.len]; exact (List.getElem?_eq_some_iff.1 hx2).1
            obtain ⟨g2, c2, ev2, -⟩ := J2.out.is.at_ (List.getElem?_eq_getElem hkR)
            subst ev2
            have cfk := fun w hh => kfind_c B p (.slice (some ⟨g2, 0, none⟩) R2.length c2) R2 G2 G.nx w hh hG2.len
            rw [posI_some hk2] at cfk
            have cfk2 := cfk _ J2.out.is
            clear hx2 hk2 cfk
            go_wp2_with fail
            with_reducible refine cfk2.mono ?_
            rintro e w3 ⟨rfl, hb3⟩
            have I3 := Lib.hid (J2.out.is.later hb3)
            have O3 := Lib.hid (J2.out.off.later hb3)
            obtain ⟨R4, G4, hR4, h4, o4, hj4, hs4, hq4⟩ := I3.out.bare hkR T now
            have T4 := Lib.hid (J2.out.str hb3 o4 HT.out HTS.out)
            obtain ⟨x3, u3, _, q6, q0, q1, q2, q3, ⟨qf1, qf2, qf3⟩, qpl, qgl, qgp⟩ := kAt I3.out hkR
            have H4 := Lib.hid h4
            have O4 := Lib.hid (O3.out.two o4 J2.out.val)
            clear hb3 cfk2 b0 b1 b2 b3 b4 b5 b6 bl
            have hkR4 : k0 < R4.length := by rw [hR4]; exact hkR
            go_wp2_with fail
            obtain ⟨W4, hW4⟩ : ∃ W4, w3.setCell ⟨g2, k0 * 5 + 1, none⟩ (.slice none 0 0) = W4 := ⟨_, rfl⟩
            rw [hW4] at H4 O4 T4 hq4 ⊢
            rw [← hR4] at H4
            have V4 : Hid (∀ k, (Value.slice (some ⟨g2, 0, none⟩) R4.length c2).ownBlock = some k → (Value.slice A9 R.length c9).ownBlock = some k ∨ W.heap.size ≤ k) := Lib.hid (by rw [hR4]; exact J2.out.val)
            clear hW4 q6 q0 q1 q2 q3 qf1 qf2 qf3 qpl qgl h4 o4
            have hbd : Below W4.heap.size W4 W4.drew := (Below.refl _ _).drew
            have h4d := H4.out.later hbd
            obtain ⟨x4, u4, -, d6, d0, -, d2, d3, ⟨df1, df2, df3⟩, dpl, dgl, dgp⟩ := kAt h4d hkR4
            have d1 : W4.drew.cell? ⟨g2, k0 * 5 + 1, none⟩ = some (.slice none 0 0) := hq4
            have hTl5 : T.length ≤ 100000 := by omega
            obtain ⟨A5, c5, w5, hrun5, hown5, hb5⟩ := str_cat (c := c) (T4.out.below hbd) HTA.out hTl5
            have h5 := h4d.later hb5
            obtain ⟨x5, u5, -, e6, e0, -, e2, e3, ⟨ef1, ef2, ef3⟩, epl, egl, egp⟩ := kAt h5 hkR4
            have e1 : w5.cell? ⟨g2, k0 * 5 + 1, none⟩ = some (.slice none 0 0) := (cell_later ⟨d1, dgl⟩ hb5).1
            have H5 := Lib.hid h5
            have HOW := Lib.hid hown5
            have HB5 := Lib.hid (hbd.trans (hb5.mono hbd.size))
            clear h4d hbd hown5 hb5 h5
            have hss2 : G4.ss = G2.ss := hs4
            obtain ⟨R6, G6, hR6, hs6, h6, o6, hfin⟩ := H5.out.joined3 hkR4 now (own_base2 HOW.out (Nat.le_trans hBW O4.out.size))
            rw [hss2, hj4] at hfin
            have HFIN := Lib.hid hfin
            have H6 := Lib.hid h6
            have HS6 : Hid (G6.ss = G2.ss) := Lib.hid (hs6.trans hss2)
            have HR6 := Lib.hid hR6
            have HGJ := Lib.hid (hG2.joinAt k0 T now)
            have HGN : Hid (0 ≤ (joinAt k0 T now G2).gn ∧ (joinAt k0 T now G2).gn ≤ 1000000) := Lib.hid (by rw [joinAt_gn]; exact hgn2)
            have hw : IntKind.i64.wrap (now + G2.ss) = now + G2.ss := by have := hG2.ss; rw [IntKind.wrap_i64]; omega
            have O6 := Lib.hid ((O4.out.later HB5.out).two o6 V4.out)
            clear h6 o6 hfin hs6 hR6 hj4 hs4 hss2
            generalize joinAt k0 T now G2 = G8 at *
            have HGJb := HGJ.out
            have HKR := Lib.hid hkR4
            generalize hi5 : k0 * 5 = i5 at *
            go_region_law (refine step_append_run rfl (.tmp 96) (.tmp 97) 31 rfl (.slice none 0 0) (.slice A T.length c) (.slice A5 T.length c5) (by simp [Act.eval]) (by simp [Act.eval]) hrun5 ?_)
            all_goals
              clear hrun5 d6 d0 d1 d2 d3 df1 df2 df3 dpl dgl dgp
              go_wp2_with fail
              obtain ⟨W6, hW6⟩ : ∃ W6, (w5.setCell ⟨g2, i5 + 1, none⟩ (.slice A5 T.length c5)).setCell ⟨g2, i5 + 3, none⟩ (.bool true) = W6 := ⟨_, rfl⟩
              rw [hW6] at H6 O6 ⊢
              clear hW6 e6 e0 e1 e2 e3 ef1 ef2 ef3 epl egl egp
              have hbd : Below W6.heap.size W6 W6.drew := (Below.refl _ _).drew
              obtain ⟨R8, hR8, h8a, o8a⟩ := HFIN.out _ H6.out
              have hbd8 : Below (W6.setCell ⟨g2, i5 + 2, none⟩ (.int .i64 (now + G2.ss))).heap.size (W6.setCell ⟨g2, i5 + 2, none⟩ (.int .i64 (now + G2.ss))) (W6.setCell ⟨g2, i5 + 2, none⟩ (.int .i64 (now + G2.ss))).drew := (Below.refl _ _).drew
              have h8 := h8a.later hbd8
              have o8 := o8a.later hbd8
              have h6d := H6.out.later hbd
              rw [← HR6.out] at h6d
              have hkR6 : k0 < R6.length := by rw [HR6.out]; exact hkR4
              obtain ⟨x6, u6, -, s6, s0, -, s2, s3, ⟨sf1, sf2, sf3⟩, spl, sgl, sgp⟩ := kAt h6d hkR6
              rw [HS6.out] at s0
              rw [hi5] at s2 s3 sf1 sf2 sf3
              have O8 := Lib.hid (O6.out.two o8 V4.out)
              have ca := kall_c B p _ R8 G8 _ h8 HGJb.len
              have H8 := Lib.hid h8
              clear h8 o8 hbd h6d hR8 h8a o8a hbd8
              go_region
              all_goals
                clear s6 s0 s2 s3 sf1 sf2 sf3 spl sgl sgp
                cases hA : G8.L.any (fun x => !x.j) with
                | true =>
                  rw [hA] at ca
                  go_wp2_with fail
                  with_reducible refine ca.mono ?_
                  rintro e w9 ⟨rfl, hb9⟩
                  go_wp2_with fail
                  go_ret2
                  exact ⟨rfl, .slice (some ⟨g2, 0, none⟩) R4.length c2, R8, by rw [HD.out]; unfold wholeD; rw [if_pos hA]; exact H8.out.later hb9, O8.out.later hb9, V4.out⟩
                | false =>
                  rw [hA] at ca
                  go_wp2_with fail
                  with_reducible refine ca.mono ?_
                  rintro e w9 ⟨rfl, hb9⟩
                  have O9 := Lib.hid (O8.out.later hb9)
                  have cc9 := kclose_c B p _ R8 G8 now _ (H8.out.later hb9) HGJb (Nat.le_trans hBW O9.out.size) hn HGN.out
                  clear hb9
                  go_wp2_with fail
                  with_reducible refine cc9.mono ?_
                  rintro e w10 ⟨rfl, v10, R10, h10, o10, hv10⟩
                  go_wp2_with fail
                  go_ret2
                  exact ⟨rfl, v10, R10, by rw [HD.out]; unfold wholeD; rw [if_neg (by rw [hA]; decide)]; exact h10, O9.out.two o10 V4.out, own_two2 O9.out.size V4.out hv10⟩
      · rw [if_neg hmm] at hE0
        have hmm' : (m == -1) = false := beq_eq_false_iff_ne.2 hmm
        have hm0 : 0 ≤ m := by omega
        cases hpo : posM m G.L with
        | none =>
          rw [hpo] at hE0
          have hD : joinD m T now G = G := by unfold joinD; rw [hE0]; rfl
          rw [hE0, hD, if_neg (by decide)]
          clear h hG ht hT hTS hw hE0 hD hTz hmm hm1 hl
          go_enter Tryz.func55, Tryz.ntmps55
          go_wp2_with fail
          with_reducible refine (ct _).mono ?_
          rintro e w1 ⟨rfl, hw9⟩
          have hw8 := hw9.symm
          subst hw8
          clear hw9
          go_wp2_with fail
          with_reducible refine cw.mono ?_
          rintro e w1 ⟨rfl, nq1, hq1⟩
          have hb1 : Below W.heap.size W w1 := by rw [hq1]; exact below_drewN (Below.refl _ _) _
          clear hq1
          have HB1 := Lib.hid hb1
          have cf1 := cf _ hb1 m
          rw [posI_none hpo] at cf1
          clear cf hpo hb1
          go_wp2_with fail
          with_reducible refine cf1.mono ?_
          rintro e w2 ⟨rfl, hb2⟩
          go_wp2_with fail
          go_ret2
          exact KWr.mk (HI.out.later (HB1.out.trans (hb2.mono HB1.out.size))) (Off.of_below _ (HB1.out.trans (hb2.mono HB1.out.size))) (fun k hk => .inl hk)
        | some k0 =>
          rw [hpo] at hE0
          dsimp only at hE0
          have HE := Lib.hid hE0
          rw [hE0, if_pos rfl, show joinM m G = m by unfold joinM; rw [if_neg hmm]]
          have hk1 := hpo
          have HM : Hid (joinM m G = m) := Lib.hid (by unfold joinM; rw [if_neg hmm])
          have H1D : Hid (join1D m G = G) := Lib.hid (by unfold join1D; rw [if_neg hmm])
          have hgn1 : 0 ≤ G.gn ∧ G.gn ≤ 1000000 := ⟨hgn.1, by have := hgn.2; omega⟩
          have cf0 := fun w hb => cf w hb m
          rw [posI_some hpo] at cf0
          clear h ht hT hTS hw hE0 cf hl hpo hmm hm1
          go_enter Tryz.func55, Tryz.ntmps55
          go_wp2_with fail
          with_reducible refine (ct _).mono ?_
          rintro e w1 ⟨rfl, hw9⟩
          have hw8 := hw9.symm
          subst hw8
          clear hw9
          go_wp2_with fail
          with_reducible refine cw.mono ?_
          rintro e w1 ⟨rfl, nq1, hq1⟩
          have hb1 : Below W.heap.size W w1 := by rw [hq1]; exact below_drewN (Below.refl _ _) _
          clear hq1
          have HB1 := Lib.hid hb1
          have cf1 := cf0 _ hb1
          clear cf0 hb1
          go_wp2_with fail
          with_reducible refine cf1.mono ?_
          rintro e w2 ⟨rfl, hb2⟩
          have hBt := HB1.out.trans (hb2.mono HB1.out.size)
          obtain ⟨v1, R1, J1⟩ : ∃ v1 R1, Hid (KjS W B p v G v1 R1 w2) := ⟨v, R, Lib.hid ⟨HI.out.later hBt, Off.of_below _ hBt, fun k hk => .inl hk⟩⟩
          clear hb2 hBt cf1
          obtain ⟨b0, b1, b2, b3, b4, b5, b6, bl, _⟩ := kg7 J1.out.is.box
          have hGb := hG
          obtain ⟨G2, hG2e⟩ : ∃ G2, join2D now G = G2 := ⟨_, rfl⟩
          have hk2 : posM m G2.L = some k0 := by rw [← hG2e, pos_join2]; exact hk1
          have HD : Hid (joinD m T now G = wholeD now (joinAt k0 T now G2)) := Lib.hid (by unfold joinD; rw [HE.out, if_pos rfl, HM.out, H1D.out, hG2e]; unfold join3D; rw [hk2])
          have hG2 : GBd G2 := by
            rw [← hG2e]
            unfold join2D
            split
            · exact hG
            · exact hG.begin now
          have hgn2 : 0 ≤ G2.gn ∧ G2.gn ≤ 1000000 := by
            have e : G2.gn = G.gn := by
              rw [← hG2e]
              unfold join2D
              split
              · rfl
              · exact beginD_gn _ _
            rw [e]; exact hgn1
          clear hk1 hgn1 HE HM H1D
          by_cases hph : G.ph = 1
          · have hph' : (G.ph == 1) = true := by rw [show G.ph = 1 from hph]; rfl
            have e2 : join2D now G = G := by unfold join2D; rw [if_pos hph]
            rw [e2] at hG2e
            subst hG2e
            clear e2 hph
            have J2 := J1
            clear J1
            obtain ⟨x2, hx2, _⟩ := pos_at hk2
            have hkR : k0 < R1.length := by rw [J2.out.is.len]; exact (List.getElem?_eq_some_iff.1 hx2).1
            obtain ⟨g2, c2, ev2, -⟩ := J2.out.is.at_ (List.getElem?_eq_getElem hkR)
            subst ev2
            have cfk := fun w hh => kfind_c B p (.slice (some ⟨g2, 0, none⟩) R1.length c2) R1 G m w hh hG2.len
            rw [posI_some hk2] at cfk
            have cfk2 := cfk _ J2.out.is
            clear hx2 hk2 cfk
            go_wp2_with fail
            with_reducible refine cfk2.mono ?_
            rintro e w3 ⟨rfl, hb3⟩
            have I3 := Lib.hid (J2.out.is.later hb3)
            have O3 := Lib.hid (J2.out.off.later hb3)
            obtain ⟨R4, G4, hR4, h4, o4, hj4, hs4, hq4⟩ := I3.out.bare hkR T now
            have T4 := Lib.hid (J2.out.str hb3 o4 HT.out HTS.out)
            obtain ⟨x3, u3, _, q6, q0, q1, q2, q3, ⟨qf1, qf2, qf3⟩, qpl, qgl, qgp⟩ := kAt I3.out hkR
            have H4 := Lib.hid h4
            have O4 := Lib.hid (O3.out.two o4 J2.out.val)
            clear hb3 cfk2 b0 b1 b2 b3 b4 b5 b6 bl
            have hkR4 : k0 < R4.length := by rw [hR4]; exact hkR
            go_wp2_with fail
            obtain ⟨W4, hW4⟩ : ∃ W4, w3.setCell ⟨g2, k0 * 5 + 1, none⟩ (.slice none 0 0) = W4 := ⟨_, rfl⟩
            rw [hW4] at H4 O4 T4 hq4 ⊢
            rw [← hR4] at H4
            have V4 : Hid (∀ k, (Value.slice (some ⟨g2, 0, none⟩) R4.length c2).ownBlock = some k → (v).ownBlock = some k ∨ W.heap.size ≤ k) := Lib.hid (by rw [hR4]; exact J2.out.val)
            clear hW4 q6 q0 q1 q2 q3 qf1 qf2 qf3 qpl qgl h4 o4
            have hbd : Below W4.heap.size W4 W4.drew := (Below.refl _ _).drew
            have h4d := H4.out.later hbd
            obtain ⟨x4, u4, -, d6, d0, -, d2, d3, ⟨df1, df2, df3⟩, dpl, dgl, dgp⟩ := kAt h4d hkR4
            have d1 : W4.drew.cell? ⟨g2, k0 * 5 + 1, none⟩ = some (.slice none 0 0) := hq4
            have hTl5 : T.length ≤ 100000 := by omega
            obtain ⟨A5, c5, w5, hrun5, hown5, hb5⟩ := str_cat (c := c) (T4.out.below hbd) HTA.out hTl5
            have h5 := h4d.later hb5
            obtain ⟨x5, u5, -, e6, e0, -, e2, e3, ⟨ef1, ef2, ef3⟩, epl, egl, egp⟩ := kAt h5 hkR4
            have e1 : w5.cell? ⟨g2, k0 * 5 + 1, none⟩ = some (.slice none 0 0) := (cell_later ⟨d1, dgl⟩ hb5).1
            have H5 := Lib.hid h5
            have HOW := Lib.hid hown5
            have HB5 := Lib.hid (hbd.trans (hb5.mono hbd.size))
            clear h4d hbd hown5 hb5 h5
            have hss2 : G4.ss = G.ss := hs4
            obtain ⟨R6, G6, hR6, hs6, h6, o6, hfin⟩ := H5.out.joined3 hkR4 now (own_base2 HOW.out (Nat.le_trans hBW O4.out.size))
            rw [hss2, hj4] at hfin
            have HFIN := Lib.hid hfin
            have H6 := Lib.hid h6
            have HS6 : Hid (G6.ss = G.ss) := Lib.hid (hs6.trans hss2)
            have HR6 := Lib.hid hR6
            have HGJ := Lib.hid (hG.joinAt k0 T now)
            have HGN : Hid (0 ≤ (joinAt k0 T now G).gn ∧ (joinAt k0 T now G).gn ≤ 1000000) := Lib.hid (by rw [joinAt_gn]; exact hgn2)
            have hw : IntKind.i64.wrap (now + G.ss) = now + G.ss := by have := hG.ss; rw [IntKind.wrap_i64]; omega
            have O6 := Lib.hid ((O4.out.later HB5.out).two o6 V4.out)
            clear h6 o6 hfin hs6 hR6 hj4 hs4 hss2
            generalize joinAt k0 T now G = G8 at *
            have HGJb := HGJ.out
            have HKR := Lib.hid hkR4
            generalize hi5 : k0 * 5 = i5 at *
            go_region_law (refine step_append_run rfl (.tmp 96) (.tmp 97) 31 rfl (.slice none 0 0) (.slice A T.length c) (.slice A5 T.length c5) (by simp [Act.eval]) (by simp [Act.eval]) hrun5 ?_)
            all_goals
              clear hrun5 d6 d0 d1 d2 d3 df1 df2 df3 dpl dgl dgp
              go_wp2_with fail
              obtain ⟨W6, hW6⟩ : ∃ W6, (w5.setCell ⟨g2, i5 + 1, none⟩ (.slice A5 T.length c5)).setCell ⟨g2, i5 + 3, none⟩ (.bool true) = W6 := ⟨_, rfl⟩
              rw [hW6] at H6 O6 ⊢
              clear hW6 e6 e0 e1 e2 e3 ef1 ef2 ef3 epl egl egp
              have hbd : Below W6.heap.size W6 W6.drew := (Below.refl _ _).drew
              obtain ⟨R8, hR8, h8a, o8a⟩ := HFIN.out _ H6.out
              have hbd8 : Below (W6.setCell ⟨g2, i5 + 2, none⟩ (.int .i64 (now + G.ss))).heap.size (W6.setCell ⟨g2, i5 + 2, none⟩ (.int .i64 (now + G.ss))) (W6.setCell ⟨g2, i5 + 2, none⟩ (.int .i64 (now + G.ss))).drew := (Below.refl _ _).drew
              have h8 := h8a.later hbd8
              have o8 := o8a.later hbd8
              have h6d := H6.out.later hbd
              rw [← HR6.out] at h6d
              have hkR6 : k0 < R6.length := by rw [HR6.out]; exact hkR4
              obtain ⟨x6, u6, -, s6, s0, -, s2, s3, ⟨sf1, sf2, sf3⟩, spl, sgl, sgp⟩ := kAt h6d hkR6
              rw [HS6.out] at s0
              rw [hi5] at s2 s3 sf1 sf2 sf3
              have O8 := Lib.hid (O6.out.two o8 V4.out)
              have ca := kall_c B p _ R8 G8 _ h8 HGJb.len
              have H8 := Lib.hid h8
              clear h8 o8 hbd h6d hR8 h8a o8a hbd8
              go_region
              all_goals
                clear s6 s0 s2 s3 sf1 sf2 sf3 spl sgl sgp
                cases hA : G8.L.any (fun x => !x.j) with
                | true =>
                  rw [hA] at ca
                  go_wp2_with fail
                  with_reducible refine ca.mono ?_
                  rintro e w9 ⟨rfl, hb9⟩
                  go_wp2_with fail
                  go_ret2
                  exact ⟨rfl, .slice (some ⟨g2, 0, none⟩) R4.length c2, R8, by rw [HD.out]; unfold wholeD; rw [if_pos hA]; exact H8.out.later hb9, O8.out.later hb9, V4.out⟩
                | false =>
                  rw [hA] at ca
                  go_wp2_with fail
                  with_reducible refine ca.mono ?_
                  rintro e w9 ⟨rfl, hb9⟩
                  have O9 := Lib.hid (O8.out.later hb9)
                  have cc9 := kclose_c B p _ R8 G8 now _ (H8.out.later hb9) HGJb (Nat.le_trans hBW O9.out.size) hn HGN.out
                  clear hb9
                  go_wp2_with fail
                  with_reducible refine cc9.mono ?_
                  rintro e w10 ⟨rfl, v10, R10, h10, o10, hv10⟩
                  go_wp2_with fail
                  go_ret2
                  exact ⟨rfl, v10, R10, by rw [HD.out]; unfold wholeD; rw [if_neg (by rw [hA]; decide)]; exact h10, O9.out.two o10 V4.out, own_two2 O9.out.size V4.out hv10⟩
          · have hph' : (G.ph == 1) = false := beq_eq_false_iff_ne.2 hph
            have e2 : join2D now G = beginD now G := by unfold join2D; rw [if_neg hph]
            rw [e2] at hG2e
            clear e2 hph
            have cb := kanew_c B p _ _ _ now _ J1.out.is hG hn
            rw [hG2e] at cb
            clear hG2e
            go_wp2_with fail
            with_reducible refine cb.mono ?_
            rintro e w2y ⟨rfl, v2, R2, h2, o2, hv2⟩
            have J2 : Hid (KjS W B p v G2 v2 R2 w2y) := Lib.hid ⟨h2, J1.out.off.two o2 J1.out.val, own_two2 J1.out.off.size J1.out.val hv2⟩
            clear h2 o2 hv2 cb J1 b0 b1 b2 b3 b4 b5 b6 bl
            obtain ⟨b0, b1, b2, b3, b4, b5, b6, bl, _⟩ := kg7 J2.out.is.box
            obtain ⟨x2, hx2, _⟩ := pos_at hk2
            have hkR : k0 < R2.length := by rw [J2.out.is.len]; exact (List.getElem?_eq_some_iff.1 hx2).1
            obtain ⟨g2, c2, ev2, -⟩ := J2.out.is.at_ (List.getElem?_eq_getElem hkR)
            subst ev2
            have cfk := fun w hh => kfind_c B p (.slice (some ⟨g2, 0, none⟩) R2.length c2) R2 G2 m w hh hG2.len
            rw [posI_some hk2] at cfk
            have cfk2 := cfk _ J2.out.is
            clear hx2 hk2 cfk
            go_wp2_with fail
            with_reducible refine cfk2.mono ?_
            rintro e w3 ⟨rfl, hb3⟩
            have I3 := Lib.hid (J2.out.is.later hb3)
            have O3 := Lib.hid (J2.out.off.later hb3)
            obtain ⟨R4, G4, hR4, h4, o4, hj4, hs4, hq4⟩ := I3.out.bare hkR T now
            have T4 := Lib.hid (J2.out.str hb3 o4 HT.out HTS.out)
            obtain ⟨x3, u3, _, q6, q0, q1, q2, q3, ⟨qf1, qf2, qf3⟩, qpl, qgl, qgp⟩ := kAt I3.out hkR
            have H4 := Lib.hid h4
            have O4 := Lib.hid (O3.out.two o4 J2.out.val)
            clear hb3 cfk2 b0 b1 b2 b3 b4 b5 b6 bl
            have hkR4 : k0 < R4.length := by rw [hR4]; exact hkR
            go_wp2_with fail
            obtain ⟨W4, hW4⟩ : ∃ W4, w3.setCell ⟨g2, k0 * 5 + 1, none⟩ (.slice none 0 0) = W4 := ⟨_, rfl⟩
            rw [hW4] at H4 O4 T4 hq4 ⊢
            rw [← hR4] at H4
            have V4 : Hid (∀ k, (Value.slice (some ⟨g2, 0, none⟩) R4.length c2).ownBlock = some k → (v).ownBlock = some k ∨ W.heap.size ≤ k) := Lib.hid (by rw [hR4]; exact J2.out.val)
            clear hW4 q6 q0 q1 q2 q3 qf1 qf2 qf3 qpl qgl h4 o4
            have hbd : Below W4.heap.size W4 W4.drew := (Below.refl _ _).drew
            have h4d := H4.out.later hbd
            obtain ⟨x4, u4, -, d6, d0, -, d2, d3, ⟨df1, df2, df3⟩, dpl, dgl, dgp⟩ := kAt h4d hkR4
            have d1 : W4.drew.cell? ⟨g2, k0 * 5 + 1, none⟩ = some (.slice none 0 0) := hq4
            have hTl5 : T.length ≤ 100000 := by omega
            obtain ⟨A5, c5, w5, hrun5, hown5, hb5⟩ := str_cat (c := c) (T4.out.below hbd) HTA.out hTl5
            have h5 := h4d.later hb5
            obtain ⟨x5, u5, -, e6, e0, -, e2, e3, ⟨ef1, ef2, ef3⟩, epl, egl, egp⟩ := kAt h5 hkR4
            have e1 : w5.cell? ⟨g2, k0 * 5 + 1, none⟩ = some (.slice none 0 0) := (cell_later ⟨d1, dgl⟩ hb5).1
            have H5 := Lib.hid h5
            have HOW := Lib.hid hown5
            have HB5 := Lib.hid (hbd.trans (hb5.mono hbd.size))
            clear h4d hbd hown5 hb5 h5
            have hss2 : G4.ss = G2.ss := hs4
            obtain ⟨R6, G6, hR6, hs6, h6, o6, hfin⟩ := H5.out.joined3 hkR4 now (own_base2 HOW.out (Nat.le_trans hBW O4.out.size))
            rw [hss2, hj4] at hfin
            have HFIN := Lib.hid hfin
            have H6 := Lib.hid h6
            have HS6 : Hid (G6.ss = G2.ss) := Lib.hid (hs6.trans hss2)
            have HR6 := Lib.hid hR6
            have HGJ := Lib.hid (hG2.joinAt k0 T now)
            have HGN : Hid (0 ≤ (joinAt k0 T now G2).gn ∧ (joinAt k0 T now G2).gn ≤ 1000000) := Lib.hid (by rw [joinAt_gn]; exact hgn2)
            have hw : IntKind.i64.wrap (now + G2.ss) = now + G2.ss := by have := hG2.ss; rw [IntKind.wrap_i64]; omega
            have O6 := Lib.hid ((O4.out.later HB5.out).two o6 V4.out)
            clear h6 o6 hfin hs6 hR6 hj4 hs4 hss2
            generalize joinAt k0 T now G2 = G8 at *
            have HGJb := HGJ.out
            have HKR := Lib.hid hkR4
            generalize hi5 : k0 * 5 = i5 at *
            go_region_law (refine step_append_run rfl (.tmp 96) (.tmp 97) 31 rfl (.slice none 0 0) (.slice A T.length c) (.slice A5 T.length c5) (by simp [Act.eval]) (by simp [Act.eval]) hrun5 ?_)
            all_goals
              clear hrun5 d6 d0 d1 d2 d3 df1 df2 df3 dpl dgl dgp
              go_wp2_with fail
              obtain ⟨W6, hW6⟩ : ∃ W6, (w5.setCell ⟨g2, i5 + 1, none⟩ (.slice A5 T.length c5)).setCell ⟨g2, i5 + 3, none⟩ (.bool true) = W6 := ⟨_, rfl⟩
              rw [hW6] at H6 O6 ⊢
              clear hW6 e6 e0 e1 e2 e3 ef1 ef2 ef3 epl egl egp
              have hbd : Below W6.heap.size W6 W6.drew := (Below.refl _ _).drew
              obtain ⟨R8, hR8, h8a, o8a⟩ := HFIN.out _ H6.out
              have hbd8 : Below (W6.setCell ⟨g2, i5 + 2, none⟩ (.int .i64 (now + G2.ss))).heap.size (W6.setCell ⟨g2, i5 + 2, none⟩ (.int .i64 (now + G2.ss))) (W6.setCell ⟨g2, i5 + 2, none⟩ (.int .i64 (now + G2.ss))).drew := (Below.refl _ _).drew
              have h8 := h8a.later hbd8
              have o8 := o8a.later hbd8
              have h6d := H6.out.later hbd
              rw [← HR6.out] at h6d
              have hkR6 : k0 < R6.length := by rw [HR6.out]; exact hkR4
              obtain ⟨x6, u6, -, s6, s0, -, s2, s3, ⟨sf1, sf2, sf3⟩, spl, sgl, sgp⟩ := kAt h6d hkR6
              rw [HS6.out] at s0
              rw [hi5] at s2 s3 sf1 sf2 sf3
              have O8 := Lib.hid (O6.out.two o8 V4.out)
              have ca := kall_c B p _ R8 G8 _ h8 HGJb.len
              have H8 := Lib.hid h8
              clear h8 o8 hbd h6d hR8 h8a o8a hbd8
              go_region
              all_goals
                clear s6 s0 s2 s3 sf1 sf2 sf3 spl sgl sgp
                cases hA : G8.L.any (fun x => !x.j) with
                | true =>
                  rw [hA] at ca
                  go_wp2_with fail
                  with_reducible refine ca.mono ?_
                  rintro e w9 ⟨rfl, hb9⟩
                  go_wp2_with fail
                  go_ret2
                  exact ⟨rfl, .slice (some ⟨g2, 0, none⟩) R4.length c2, R8, by rw [HD.out]; unfold wholeD; rw [if_pos hA]; exact H8.out.later hb9, O8.out.later hb9, V4.out⟩
                | false =>
                  rw [hA] at ca
                  go_wp2_with fail
                  with_reducible refine ca.mono ?_
                  rintro e w9 ⟨rfl, hb9⟩
                  have O9 := Lib.hid (O8.out.later hb9)
                  have cc9 := kclose_c B p _ R8 G8 now _ (H8.out.later hb9) HGJb (Nat.le_trans hBW O9.out.size) hn HGN.out
                  clear hb9
                  go_wp2_with fail
                  with_reducible refine cc9.mono ?_
                  rintro e w10 ⟨rfl, v10, R10, h10, o10, hv10⟩
                  go_wp2_with fail
                  go_ret2
                  exact ⟨rfl, v10, R10, by rw [HD.out]; unfold wholeD; rw [if_neg (by rw [hA]; decide)]; exact h10, O9.out.two o10 V4.out, own_two2 O9.out.size V4.out hv10⟩
end Go.Proofs.YtlokhhjhckiloaaGreat
/- the document's group: Sync, by a contract. No condition but that numbers are small. -/
namespace Go.Proofs.YtlokhhjhckiloaaGreat
open Go.RowKit
set_option linter.unusedVariables false
/-- What the document's Sync gives. -/
def KGot (B p : Nat) (v : Value) (W : World) (G' : GD) (err : Int) (e : Ending) (w' : World) : Prop :=
  ∃ A c P, e = .returned (.tuple #[.slice A P.length c, .int .i64 err]) ∧ w'.ownsRow B 34 2 (.slice A P.length c) P.length (prtC P) ∧ ∃ v' R', KIs w' B p v' R' G' ∧ Off (GrS p v) W w' ∧ ∀ k, v'.ownBlock = some k → v.ownBlock = some k ∨ W.heap.size ≤ k
theorem KGot.no {B p : Nat} {v v' : Value} {W w' : World} {R' : List MV} {G' : GD} {err : Int} (h : KIs w' B p v' R' G') (ho : Off (GrS p v) W w') (hv : ∀ k, v'.ownBlock = some k → v.ownBlock = some k ∨ W.heap.size ≤ k) : KGot B p v W G' err (.returned (.tuple #[.slice none 0 0, .int .i64 err])) w' :=
  ⟨none, 0, [], rfl, World.ownsRow_nil _ _ _ _, v', R', h, ho, hv⟩
theorem lead_zero {m : Int} {L : List MD} {G : GD} (hL : G.L = L) (h : posM m L = some 0) : m = leadM G := by
  obtain ⟨x, hx, hn⟩ := pos_at h
  subst hL
  unfold leadM
  cases hl : G.L with
  | nil => rw [hl] at hx; cases hx
  | cons y l =>
    rw [hl] at hx
    have : y = x := by simpa using hx
    rw [← hn, this]
theorem lead_more {m : Int} {G : GD} {k : Nat} (h : posM m G.L = some (k + 1)) : m ≠ leadM G := by
  intro e
  have h2 := h
  cases hl : G.L with
  | nil => rw [hl] at h2; cases h2
  | cons y l =>
    have hy : y.n = m := by rw [e]; unfold leadM; rw [hl]
    rw [hl] at h2
    unfold posM at h2
    rw [List.findIdx?_cons] at h2
    simp [hy] at h2
/-- A member's wishes behind those ahead of it. -/
theorem app_sub {W wr wl : World} {R : List MV} {k e0 : Nat} {B1 : Option Addr} {x : MV} {tA : Option Addr} {tn tc : Nat} (h : RowS W 142 2 (.slice B1 k e0) k (subC (R.take k)) wr) (hx : R[k]? = some x) (ht : x.tv = .slice tA tn tc) (hk : k ≤ 1000) (hwl : wl = (wr.alloc (.cells #[.int .i64 x.d.n, .slice tA tn tc] 142)).drew) :
    ∃ A' c' w', (Builtin.append_ #[140, 140] 140 #[.slice B1 k e0, .slice (some ⟨wr.heap.size, 0, none⟩) 1 1]).run Tryz.prog wl = .ok (.slice A' (k + 1) c') w' ∧ RowS W 142 2 (.slice A' (k + 1) c') (k + 1) (subC (R.take (k + 1))) w' := by
  have o1 := (h.later ((Below.refl _ _).alloc (Nat.le_refl _) (.cells #[.int .i64 x.d.n, .slice tA tn tc] 142))).later ((Below.refl _ _).drew)
  rw [← hwl] at o1
  have hsrc : SrcZ 2 wl (.slice (some ⟨wr.heap.size, 0, none⟩) 1 1) 1 [.int .i64 x.d.n, .slice tA tn tc] := by
    refine .inr ⟨_, _, rfl, rfl, fun j y hy => ?_⟩
    rw [add_spot, Nat.zero_add, hwl]
    exact ((Box.new wr 142 #[.int .i64 x.d.n, .slice tA tn tc]).cell j).trans (by simpa using hy)
  obtain ⟨A2, c2, w2, r2, o2, g2⟩ := catZ (by decide) Tryz.underlying140 infoSub rfl (by decide) o1.row hsrc (fun u hu => by
    rcases List.mem_cons.1 hu with rfl | hu
    · rfl
    · have := List.mem_singleton.1 hu
      subst this
      rfl) o1.bel.size (by omega)
  refine ⟨A2, c2, w2, r2, ?_⟩
  rw [subC_succ hx, ht]
  exact o1.grow o2 g2
/-- Dealing under way. -/
structure KDs (W : World) (B p : Nat) (v : Value) (R : List MV) (G : GD) (b : Nat) (vs : Value) (D : Nat → List TX) (Rs : List (Int × Value)) (k : Nat) (w : World) : Prop where
  le : k ≤ R.length
  is : KIs w B p v (dpR D Rs R k) { G with L := (dpR D Rs R k).map MV.d }
  sh : ShIs b w vs Rs D
  off : Off (GrS p v) W w
theorem KDs.later {W : World} {B p b k : Nat} {v vs : Value} {R : List MV} {G : GD} {D : Nat → List TX} {Rs : List (Int × Value)} {w w' : World} (h : KDs W B p v R G b vs D Rs k w) (hb : Below w.heap.size w w') : KDs W B p v R G b vs D Rs k w' := ⟨h.le, h.is.later hb, h.sh.later hb, h.off.later hb⟩
theorem KDs.drew9 {W : World} {B p b k : Nat} {v vs : Value} {R : List MV} {G : GD} {D : Nat → List TX} {Rs : List (Int × Value)} {w : World} (h : KDs W B p v R G b vs D Rs k w) : KDs W B p v R G b vs D Rs k w.drew := h.later ((Below.refl _ _).drew)
theorem KDs.step {W : World} {B p g c b k : Nat} {vs : Value} {R : List MV} {G : GD} {D : Nat → List TX} {Rs : List (Int × Value)} {w : World} {x : MV} {r : Int × Value} (h : KDs W B p (.slice (some ⟨g, 0, none⟩) R.length c) R G b vs D Rs k w) (hx : R[k]? = some x) (hr : Rs[k]? = some r) (hB : B ≤ b) (hg : g < b) :
    KDs W B p (.slice (some ⟨g, 0, none⟩) R.length c) R G b vs D Rs (k + 1) (w.setCell ⟨g, k * 5 + 4, none⟩ r.2) := by
  have hl := (List.getElem?_eq_some_iff.1 hx).1
  have hpk := own_base2 (h.sh.parts k r hr) hB
  obtain ⟨h1, o1⟩ := h.is.field dpR_len (dpR_at hx) (y := dpX D Rs (k + 1) k x) 4 r.2 (by decide) (by unfold dpX mvC; rw [if_pos (by omega), hr]; rfl) (.inl (by unfold dpX; rw [if_pos (by omega)]; exact ⟨rfl, rfl⟩)) (.inr (by unfold dpX; rw [if_pos (by omega), hr]; exact hpk))
  rw [dpR_step hx] at h1
  refine ⟨by omega, h1.abs2 rfl, h.sh.off (Off.one w ⟨g, k * 5 + 4, none⟩ r.2) (fun i e => .inl (by rw [show i = g from e]; exact hg)), h.off.trans o1 (fun _ _ e => e)⟩
theorem hearD_n (k : Nat) (now : Int) (G : GD) : (hearD k now G).L.map (·.n) = G.L.map (·.n) := by
  unfold hearD
  cases hx : G.L[k]? with
  | none => rfl
  | some x =>
    show (G.L.set k _).map _ = _
    apply List.ext_getElem?
    intro j
    rw [List.getElem?_map, List.getElem?_map]
    by_cases e : k = j
    · subst e
      rw [List.getElem?_set_self (List.getElem?_eq_some_iff.1 hx).1, hx]
      rfl
    · rw [List.getElem?_set_ne e]
theorem posM_n (m : Int) (L : List MD) : posM m L = (L.map (·.n)).findIdx? (fun y => decide (y = m)) := by
  unfold posM
  rw [List.findIdx?_map]
  rfl
set_option maxHeartbeats 16000000 in
set_option maxRecDepth 100000 in
theorem ksync_c (B p : Nat) (v : Value) (R : List MV) (G : GD) (m gen now : Int) (T : List TX) (A2 : Option Addr) (c2 : Nat) (round : Bool) (W : World) (h : KIs W B p v R G) (hG : GBd G) (hl : G.L.length ≤ 20) (hBW : B ≤ W.heap.size) (hTL : ∀ x ∈ G.L, x.T.length ≤ 100000)
    (hT : TpIn W A2 T) (hTl : T.length ≤ 140737488351232) (hTz : ∀ t ∈ T, t.1.size ≤ 281474976710656) (hTS : 0 < T.length → ∀ a, A2 = some a → ¬ GrS p v a.block) :
    Calls Tryz.prog 56 #[.pointer (some ⟨p, 0, none⟩), .int .i64 m, .int .i64 gen, .slice A2 T.length c2, .bool round, .int .i64 now] W (KGot B p v W (syncD m gen T round now G) (syncE m gen T now G)) := by
  have ct := fun w => ktime_c now w
  have ck := kknows_c B p v R G m gen W h hG.len
  have HI := Lib.hid h
  have HT := Lib.hid hT
  have HTS := Lib.hid hTS
  cases ht : timeB now with
  | false =>
    rw [ht] at ct
    have hE : syncE m gen T now G = 1 := by unfold syncE; rw [ht]; rfl
    have hD : syncD m gen T round now G = G := by unfold syncD; rw [ht]; rfl
    rw [hE, hD]
    clear h hG ht hE hD hTL hTz hT hTS ck
    go_enter Tryz.func56, Tryz.ntmps56
    go_wp2_with fail
    with_reducible refine (ct _).mono ?_
    rintro e w1 ⟨rfl, hw9⟩
    have hw8 := hw9.symm
    subst hw8
    clear hw9
    go_wp2_with fail
    go_ret2
    exact KGot.no HI.out (Off.refl _ _) (fun k hk => .inl hk)
  | true =>
    rw [ht] at ct
    have hn := time_bd ht
    by_cases hK : knowE m gen G = 0
    · rw [hK] at ck
      obtain ⟨k, hk⟩ := name_pos (know_name hK)
      have hkR : k < R.length := by
        obtain ⟨x, hx, _⟩ := pos_at hk
        rw [h.len]; exact (List.getElem?_eq_some_iff.1 hx).1
      obtain ⟨g, c, ev, -⟩ := h.at_ (List.getElem?_eq_getElem hkR)
      have cf := fun w (hb : Below W.heap.size W w) => kfind_c B p v R G m w (h.later hb) hG.len
      rw [posI_some hk] at cf
      subst ev
      have hE : syncE m gen T now G = sync2E m T (hearD k now G) := by unfold syncE; rw [ht, hK, hk]; rfl
      have hD : syncD m gen T round now G = sync2D m T round (hearD k now G) := by unfold syncD; rw [if_pos ⟨ht, hK⟩, hk]
      rw [hE, hD]
      obtain ⟨G1, hG1⟩ : ∃ G1, hearD k now G = G1 := ⟨_, rfl⟩
      have hl1 : G1.L.length ≤ 20 := by rw [← hG1, hearD_len]; exact hl
      have hTL1 : ∀ x ∈ G1.L, x.T.length ≤ 100000 := by rw [← hG1]; exact hearD_T (C := fun T => T.length ≤ 100000) hTL
      have hkp : posM m G1.L = some k := by rw [← hG1, posM_n, hearD_n, ← posM_n]; exact hk
      rw [hG1]
      have hss := hG.ss
      have hk0 : (0 : Int) ≤ (k : Int) := by omega
      have hk1 : (k : Int) < (R.length : Int) := by omega
      have HH : Hid (∀ w, KIs w B p (.slice (some ⟨g, 0, none⟩) R.length c) R G → ∃ R', R'.length = R.length ∧ KIs (w.setCell ⟨g, k * 5 + 2, none⟩ (.int .i64 (now + G.ss))) B p (.slice (some ⟨g, 0, none⟩) R.length c) R' G1 ∧ Off (GrS p (.slice (some ⟨g, 0, none⟩) R.length c)) w (w.setCell ⟨g, k * 5 + 2, none⟩ (.int .i64 (now + G.ss)))) := Lib.hid (fun w hw => by rw [← hG1]; exact hw.hear hkR now)
      obtain ⟨b0, b1, b2, b3, b4, b5, b6, bl, _⟩ := kg7 h.box
      have HS : Hid (∀ w, KIs w B p (.slice (some ⟨g, 0, none⟩) R.length c) R G → ∃ u, w.cell? ⟨p, 0, none⟩ = some (.int .i64 G.ss) ∧ w.cell? ⟨p, 6, none⟩ = some (.slice (some ⟨g, 0, none⟩) R.length c) ∧ w.cell? ⟨g, k * 5 + 2, none⟩ = some (.int .i64 u) ∧ w.frozen? ⟨g, k * 5 + 2, none⟩ = false ∧ p < w.heap.size ∧ g < w.heap.size) := Lib.hid (fun w hw => hw.hr hkR)
      have HKP := Lib.hid hkp
      clear h hG ht hE hD hTL hT hTS hK hk hG1 hl hkp
      by_cases hph : G1.ph = 2
      · have hph' : (G1.ph == 2) = true := by rw [hph]; rfl
        by_cases hkk : k = 0
        · have hm : m = leadM G1 := lead_zero rfl (by rw [← hkk]; exact HKP.out)
          have e2D : sync2D m T round G1 = dealD T round G1 := by unfold sync2D; rw [if_pos hph, if_pos hm]
          have e2E : sync2E m T G1 = dealE G1.L T := by unfold sync2E; rw [if_pos hph, if_pos hm]
          have hkneg : ¬ (0 : Int) < (k : Int) := by omega
          rw [e2D, e2E]
          clear hph e2D e2E hkk hm
          cases round with
          | false =>
            go_enter Tryz.func56, Tryz.ntmps56
            go_wp2_with fail
            with_reducible refine (ct _).mono ?_
            rintro e w1 ⟨rfl, hw9⟩
            have hw8 := hw9.symm
            subst hw8
            clear hw9
            go_wp2_with fail
            with_reducible refine ck.mono ?_
            rintro e w2 ⟨rfl, hb2⟩
            have HB2 := Lib.hid hb2
            have cf2 := cf _ hb2
            clear hb2 cf ct ck
            go_wp2_with fail
            with_reducible refine cf2.mono ?_
            rintro e w3 ⟨rfl, hb3⟩
            have HB3 := Lib.hid (HB2.out.trans (hb3.mono HB2.out.size))
            have hbd : Below w3.heap.size w3 w3.drew := (Below.refl _ _).drew
            have I3d := HI.out.later (HB3.out.trans (hbd.mono HB3.out.size))
            obtain ⟨u3, s1, s2, s3, s4, s5, s6⟩ := HS.out _ I3d
            obtain ⟨R4, hR4, h4a, o4a⟩ := HH.out _ (HI.out.later HB3.out)
            have hbd8 : Below (w3.setCell ⟨g, k * 5 + 2, none⟩ (.int .i64 (now + G.ss))).heap.size (w3.setCell ⟨g, k * 5 + 2, none⟩ (.int .i64 (now + G.ss))) (w3.setCell ⟨g, k * 5 + 2, none⟩ (.int .i64 (now + G.ss))).drew := (Below.refl _ _).drew
            have h4 := h4a.later hbd8
            have H4 := Lib.hid h4
            have O4 := Lib.hid (((Off.of_below (GrS p (.slice (some ⟨g, 0, none⟩) R.length c)) HB3.out).trans o4a (fun _ _ e => e)).later hbd8)
            obtain ⟨z0, z1, z2, z3, z4, z5, z6, zl, _⟩ := kg7 h4.box
            have HR4 := Lib.hid hR4
            have hw : IntKind.i64.wrap (now + G.ss) = now + G.ss := by rw [IntKind.wrap_i64]; omega
            clear hb3 h4a o4a hR4 cf2 I3d hbd hbd8
            have hlenR : R4.length = G1.L.length := h4.len
            have HST : Hid (stripS (subsV R4) = subsD G1.L) := Lib.hid (subs_strip h4.abs)
            have hT4 : TpIn _ A2 T := (fun hp => by
              obtain ⟨b, off, e, hlt, hc⟩ := HT.out hp
              exact ⟨b, off, e, Nat.lt_of_lt_of_le hlt O4.out.size, fun j x hx => ⟨(O4.out.cell (p := ⟨b, off + j * 2, none⟩) hlt (HTS.out hp ⟨b, off, none⟩ e)).trans (hc j x hx).1, (O4.out.cell (p := ⟨b, off + j * 2 + 1, none⟩) hlt (HTS.out hp ⟨b, off, none⟩ e)).trans (hc j x hx).2⟩⟩ : TpIn (w3.setCell ⟨g, k * 5 + 2, none⟩ (.int .i64 (now + G.ss))).drew A2 T)
            have HT4 := Lib.hid hT4
            have hlR : R4.length ≤ 20 := by omega
            have hSl : (subsV R4).length ≤ 140737488351232 := by rw [subsV_len]; omega
            have hSz : ∀ x ∈ subsV R4, x.2.1.length ≤ 140737488351232 := fun x hx => by
              unfold subsV at hx
              obtain ⟨y, hy, rfl⟩ := List.mem_map.1 hx
              have := hTL1 y.d (by rw [← h4.abs]; exact List.mem_map_of_mem hy)
              show y.d.T.length ≤ _
              omega
            have h4x := h4
            clear hT4 h4 hlenR
            generalize hi5 : k * 5 = i5 at *
            go_wp2_with fail
            go_region
            all_goals
              clear s1 s2 s3 s4 s5 s6
              generalize (w3.setCell ⟨g, i5 + 2, none⟩ (.int .i64 (now + G.ss))).drew = W4 at *
              have HR0 := Lib.hid (RowS.start W4 142 2)
              clear h4x
              rw [← HR4.out] at H4 z6
              go_wp2_with fail
              have hdk : decide (0 < k) = false := decide_eq_false (by omega)
              rw [hdk]
              clear hdk hkneg
              go_loopw [16, 17] (fun a j wr => ∃ (k : Nat) (B1 : Option Addr) (e : Nat), j = .int .i64 k ∧ k ≤ R4.length ∧ a = .slice B1 k e ∧ RowS W4 142 2 (.slice B1 k e) k (subC (R4.take k)) wr) (fun _ j _ => R4.length - (intOf j).toNat)
              case atStart => exact ⟨0, none, 0, rfl, Nat.zero_le _, rfl, HR0.out⟩
              case round =>
                obtain ⟨q, B1, e0, rfl, hql, rfl, hP⟩ := hrel
                have HP := Lib.hid hP
                clear hP HR0
                by_cases hq : q < R4.length
                · obtain ⟨x, hx⟩ : ∃ x, R4[q]? = some x := ⟨_, List.getElem?_eq_getElem hq⟩
                  have hI := H4.out.later (HP.out.bel.trans (((Below.refl _ wr).drew).mono HP.out.bel.size))
                  obtain ⟨g3, c3, e3, hgl, _, hgp, q0, q1, -⟩ := hI.at_ hx
                  injection e3 with e3 en ec
                  clear en
                  injection e3 with e3
                  injection e3 with e3
                  subst e3
                  obtain ⟨y0, y1, y2, y3, y4, y5, y6, yl, _⟩ := kg7 hI.box
                  obtain ⟨u0, u1, u2, u3x, u4, u5, u6, ul, _⟩ := kg7 (H4.out.later HP.out.bel).box
                  have hok := H4.out.all x (List.mem_of_getElem? hx)
                  obtain ⟨tA, tc, et⟩ := own_slice hok.tr
                  obtain ⟨A5, c5, w5, hrun5, hR5⟩ := app_sub HP.out hx et (by omega) rfl
                  have HR5 := Lib.hid hR5
                  have hqi : (q : Int) < (R4.length : Int) := by omega
                  rw [et] at q1
                  clear hok hx hR5 hI et ec
                  generalize hi6 : q * 5 = i6 at *
                  go_wp2_with fail
                  go_region_law (refine step_append_run rfl (.tmp 63) (.tmp 81) 140 rfl (.slice B1 q e0) (.slice (some ⟨wr.heap.size, 0, none⟩) 1 1) (.slice A5 (q + 1) c5) (by simp [Act.eval]) (by simp [Act.eval]) hrun5 ?_)
                  all_goals
                    go_wp2_with fail
                    go_roundw
                    case rel => exact ⟨q + 1, A5, c5, by go_num, hq, rfl, HR5.out⟩
                    case measure => simp [intOf]; omega
                · have hqq : q = R4.length := by omega
                  subst hqq
                  have hki : ¬ (R4.length : Int) < (R4.length : Int) := by omega
                  have hsin := subs_in (by have := HP.out.row; rw [List.take_length] at this; exact this) rfl (fun x hx => (H4.out.all x hx).later HP.out.bel)
                  have HSIN := Lib.hid hsin
                  have HBW := Lib.hid HP.out.bel
                  obtain ⟨y0, y1, y2, y3, y4, y5, y6, yl, _⟩ := kg7 (H4.out.later HP.out.bel).box
                  have hchk : chkE (subsV R4) T = dealE G1.L T := by unfold dealE; rw [← HST.out, strip_chk]
                  have hcs := chk_cases (subsV R4) T
                  have HCH := Lib.hid hchk
                  rw [hchk] at hcs
                  clear hsin HP
                  rcases hcs with hE | hE
                  · have HE := Lib.hid hE
                    have cx := rrange_c (subsV R4) B1 e0 T A2 c2 wr HSIN.out (HT4.out.below HBW.out) hSz (by rw [HCH.out]; exact hE)
                    unfold GotSh at cx
                    simp only [subsV_len] at cx
                    clear hE hchk
                    go_wp2_with fail
                    with_reducible refine cx.mono ?_
                    rintro e w6 ⟨As, cs, Rs, rfl, hsh, hmr, hb6⟩
                    have HB6 := Lib.hid (HBW.out.trans (hb6.mono HBW.out.size))
                    have HSB : Hid (W4.heap.size ≤ wr.heap.size) := Lib.hid HBW.out.size
                    have hZ : wr.heap.size ≤ w6.heap.size := hb6.size
                    have HDD : Hid (rangeD (subsV R4) T = rangeD (subsD G1.L) T) := Lib.hid (by rw [← HST.out, strip_range])
                    obtain ⟨bz, hbz⟩ : ∃ bz, wr.heap.size = bz := ⟨_, rfl⟩
                    rw [hbz] at HSB hsh
                    clear hbz
                    have hRs : Rs.length = R4.length := by have := congrArg List.length hmr; simpa [subsV_len] using this
                    have HRs := Lib.hid hRs
                    have HST2 : Hid (KDs W4 B p (.slice (some ⟨g, 0, none⟩) R4.length c) R4 G1 bz (.slice As R4.length cs) (rangeD (subsD G1.L) T) Rs 0 w6) := Lib.hid ⟨Nat.zero_le _, by rw [dpR_zero]; exact (H4.out.later HB6.out).abs' rfl, by rw [← HDD.out]; exact hsh, Off.of_below _ HB6.out⟩
                    clear hb6 cx hsh hmr hRs
                    go_wp2_with fail
                    go_loopw [20] (fun j wx => ∃ q : Nat, j = .int .i64 q ∧ KDs W4 B p (.slice (some ⟨g, 0, none⟩) R4.length c) R4 G1 bz (.slice As R4.length cs) (rangeD (subsD G1.L) T) Rs q wx) (fun j _ => R4.length - (intOf j).toNat)
                    case atStart => exact ⟨0, rfl, HST2.out⟩
                    case round =>
                      obtain ⟨q, rfl, hD⟩ := hrel
                      have hle := hD.le
                      have HD := Lib.hid hD
                      clear HST2
                      by_cases hq : q < R4.length
                      · obtain ⟨x, hx⟩ : ∃ x, R4[q]? = some x := ⟨_, List.getElem?_eq_getElem hq⟩
                        obtain ⟨r, hr⟩ : ∃ r, Rs[q]? = some r := ⟨_, List.getElem?_eq_getElem (by rw [HRs.out]; exact hq)⟩
                        obtain ⟨y0, y1, y2, y3, y4, y5, y6, yl, f2, f3, f4, f5, f6⟩ := kg7 hD.is.box
                        obtain ⟨v0, v1, v2, v3, v4, v5, v6, vl, j2, j3, j4, j5, j6⟩ := kg7 hD.drew9.is.box
                        obtain ⟨g', c', e, hgl, _, hgp, -, -, -, -, q4, hf⟩ := hD.drew9.is.at_ (dpR_at hx)
                        injection e with e en ec
                        injection e with e
                        injection e with e
                        subst e
                        clear en ec
                        have hf4 := hf (q * 5 + 4)
                        obtain ⟨-, g3, eA, hg3, hb3, s0, s1, -⟩ := hD.drew9.sh.at_ hr
                        subst eA
                        obtain ⟨pA, pc, ep⟩ := own_slice (hD.sh.parts q r hr)
                        have HBg : Hid (g < bz) := Lib.hid (by
                          obtain ⟨g0, c0, e0', hg0, _⟩ := H4.out.at_ hx
                          have hgg : g = g0 := by simpa [Value.ownBlock] using congrArg Value.ownBlock e0'
                          rw [← hgg] at hg0
                          exact Nat.lt_of_lt_of_le hg0 HSB.out)
                        have HBB : Hid (B ≤ bz) := Lib.hid (Nat.le_trans (Nat.le_trans hBW O4.out.size) HSB.out)
                        obtain ⟨rn, rv⟩ := r
                        dsimp only at ep s0 s1
                        subst ep
                        have HST3 := Lib.hid (hD.step hx hr HBB.out HBg.out).drew9
                        have hqi : (q : Int) < (R4.length : Int) := by omega
                        dsimp only at HST3
                        clear hD hx hr hf HBg HBB HD hle
                        generalize ((rangeD (subsD G1.L) T) q).length = pn at *
                        generalize hi7 : q * 5 = i7 at *
                        go_wp2_with fail
                        go_region
                        all_goals go_wp2_with fail
                        all_goals go_roundw
                        case rel => exact ⟨q + 1, by go_num, HST3.out⟩
                        case measure => simp [intOf]; omega
                      · have hqq : q = R4.length := by omega
                        subst hqq
                        have hqi : ¬ (R4.length : Int) < (R4.length : Int) := by omega
                        have HDG : Hid (dealD T false G1 = { G1 with ph := 3, un := 0, L := G1.L.mapIdx fun j x => { x with P := (rangeD (subsD G1.L) T) j } }) := Lib.hid (by unfold dealD; rw [HE.out, if_pos rfl]; rfl)
                        have HAB : Hid ((dpR (rangeD (subsD G1.L) T) Rs R4 R4.length).map MV.d = G1.L.mapIdx fun j x => { x with P := (rangeD (subsD G1.L) T) j }) := Lib.hid (dpR_abs H4.out.abs)
                        have o3 := (Off.one wr ⟨p, 2, none⟩ (.int .i64 3)).set (p := ⟨p, 5, none⟩) (.inl (show p = p from rfl)) (.int .i64 0)
                        have h3 := hD.is.put (G' := { G1 with ph := 3, un := 0, L := (dpR (rangeD (subsD G1.L) T) Rs R4 R4.length).map MV.d }) o3 ((hD.is.box.set 2 (.int .i64 3)).set 5 (.int .i64 0)) rfl
                        obtain ⟨x5, hx5⟩ : ∃ x, (dpR (rangeD (subsD G1.L) T) Rs R4 R4.length)[k]? = some x := ⟨_, List.getElem?_eq_getElem (by rw [dpR_len, HR4.out]; exact hkR)⟩
                        obtain ⟨y0, y1, y2, y3, y4, y5, y6, yl, f2, f3, f4, f5, f6⟩ := kg7 hD.is.box
                        obtain ⟨g5, c5, ev5, -, -, -, -, -, -, -, r4, -⟩ := hD.is.at_ hx5
                        have hg5 : g5 = g := by simpa [Value.ownBlock] using (congrArg Value.ownBlock ev5).symm
                        subst hg5
                        have hall5 := h3.all x5 (List.mem_of_getElem? hx5)
                        obtain ⟨pA, pc, epv⟩ := own_slice hall5.pr
                        rw [epv] at r4
                        have HPR : Hid (World.ownsRow _ B 34 2 (.slice pA x5.d.P.length pc) x5.d.P.length (prtC x5.d.P)) := Lib.hid (by have := hall5.pr; rw [epv] at this; exact this)
                        have H3 := Lib.hid h3
                        have O3 := Lib.hid ((O4.out.trans hD.off (fun _ _ e => e)).trans o3 (fun _ _ e => .inl e))
                        have hkq : (k : Int) < (R4.length : Int) := by rw [HR4.out]; exact hk1
                        clear hD h3 o3 HD hx5 ev5 hall5 epv hle
                        rw [hi5] at r4
                        go_wp2_with fail
                        go_ret2
                        rw [HE.out, HDG.out]
                        exact ⟨pA, pc, x5.d.P, rfl, HPR.out, _, _, H3.out.abs' (by rw [HAB.out]), O3.out, fun k hk => .inl hk⟩
                  · have HE := Lib.hid hE
                    have hD : dealD T false G1 = G1 := by unfold dealD; rw [hE, if_neg (by decide)]
                    have cx := rrange_bad (subsV R4) B1 e0 T A2 c2 wr HSIN.out (HT4.out.below HBW.out) hSl hTl hSz (by rw [HCH.out]; exact hE)
                    simp only [subsV_len] at cx
                    have HDG := Lib.hid hD
                    clear hE hD hchk
                    go_wp2_with fail
                    with_reducible refine cx.mono ?_
                    rintro e w6 ⟨rfl, hb6⟩
                    have HB6 := Lib.hid (HBW.out.trans (hb6.mono HBW.out.size))
                    clear hb6 cx
                    go_wp2_with fail
                    go_ret2
                    rw [HE.out, HDG.out]
                    exact KGot.no (H4.out.later HB6.out) (O4.out.later HB6.out) (fun k hk => .inl hk)
          | true =>
            go_enter Tryz.func56, Tryz.ntmps56
            go_wp2_with fail
            with_reducible refine (ct _).mono ?_
            rintro e w1 ⟨rfl, hw9⟩
            have hw8 := hw9.symm
            subst hw8
            clear hw9
            go_wp2_with fail
            with_reducible refine ck.mono ?_
            rintro e w2 ⟨rfl, hb2⟩
            have HB2 := Lib.hid hb2
            have cf2 := cf _ hb2
            clear hb2 cf ct ck
            go_wp2_with fail
            with_reducible refine cf2.mono ?_
            rintro e w3 ⟨rfl, hb3⟩
            have HB3 := Lib.hid (HB2.out.trans (hb3.mono HB2.out.size))
            have hbd : Below w3.heap.size w3 w3.drew := (Below.refl _ _).drew
            have I3d := HI.out.later (HB3.out.trans (hbd.mono HB3.out.size))
            obtain ⟨u3, s1, s2, s3, s4, s5, s6⟩ := HS.out _ I3d
            obtain ⟨R4, hR4, h4a, o4a⟩ := HH.out _ (HI.out.later HB3.out)
            have hbd8 : Below (w3.setCell ⟨g, k * 5 + 2, none⟩ (.int .i64 (now + G.ss))).heap.size (w3.setCell ⟨g, k * 5 + 2, none⟩ (.int .i64 (now + G.ss))) (w3.setCell ⟨g, k * 5 + 2, none⟩ (.int .i64 (now + G.ss))).drew := (Below.refl _ _).drew
            have h4 := h4a.later hbd8
            have H4 := Lib.hid h4
            have O4 := Lib.hid (((Off.of_below (GrS p (.slice (some ⟨g, 0, none⟩) R.length c)) HB3.out).trans o4a (fun _ _ e => e)).later hbd8)
            obtain ⟨z0, z1, z2, z3, z4, z5, z6, zl, _⟩ := kg7 h4.box
            have HR4 := Lib.hid hR4
            have hw : IntKind.i64.wrap (now + G.ss) = now + G.ss := by rw [IntKind.wrap_i64]; omega
            clear hb3 h4a o4a hR4 cf2 I3d hbd hbd8
            have hlenR : R4.length = G1.L.length := h4.len
            have HST : Hid (stripS (subsV R4) = subsD G1.L) := Lib.hid (subs_strip h4.abs)
            have hT4 : TpIn _ A2 T := (fun hp => by
              obtain ⟨b, off, e, hlt, hc⟩ := HT.out hp
              exact ⟨b, off, e, Nat.lt_of_lt_of_le hlt O4.out.size, fun j x hx => ⟨(O4.out.cell (p := ⟨b, off + j * 2, none⟩) hlt (HTS.out hp ⟨b, off, none⟩ e)).trans (hc j x hx).1, (O4.out.cell (p := ⟨b, off + j * 2 + 1, none⟩) hlt (HTS.out hp ⟨b, off, none⟩ e)).trans (hc j x hx).2⟩⟩ : TpIn (w3.setCell ⟨g, k * 5 + 2, none⟩ (.int .i64 (now + G.ss))).drew A2 T)
            have HT4 := Lib.hid hT4
            have hlR : R4.length ≤ 20 := by omega
            have hSl : (subsV R4).length ≤ 140737488351232 := by rw [subsV_len]; omega
            have hSz : ∀ x ∈ subsV R4, x.2.1.length ≤ 140737488351232 := fun x hx => by
              unfold subsV at hx
              obtain ⟨y, hy, rfl⟩ := List.mem_map.1 hx
              have := hTL1 y.d (by rw [← h4.abs]; exact List.mem_map_of_mem hy)
              show y.d.T.length ≤ _
              omega
            have h4x := h4
            clear hT4 h4 hlenR
            generalize hi5 : k * 5 = i5 at *
            go_wp2_with fail
            go_region
            all_goals
              clear s1 s2 s3 s4 s5 s6
              generalize (w3.setCell ⟨g, i5 + 2, none⟩ (.int .i64 (now + G.ss))).drew = W4 at *
              have HR0 := Lib.hid (RowS.start W4 142 2)
              clear h4x
              rw [← HR4.out] at H4 z6
              go_wp2_with fail
              have hdk : decide (0 < k) = false := decide_eq_false (by omega)
              rw [hdk]
              clear hdk hkneg
              go_loopw [16, 17] (fun a j wr => ∃ (k : Nat) (B1 : Option Addr) (e : Nat), j = .int .i64 k ∧ k ≤ R4.length ∧ a = .slice B1 k e ∧ RowS W4 142 2 (.slice B1 k e) k (subC (R4.take k)) wr) (fun _ j _ => R4.length - (intOf j).toNat)
              case atStart => exact ⟨0, none, 0, rfl, Nat.zero_le _, rfl, HR0.out⟩
              case round =>
                obtain ⟨q, B1, e0, rfl, hql, rfl, hP⟩ := hrel
                have HP := Lib.hid hP
                clear hP HR0
                by_cases hq : q < R4.length
                · obtain ⟨x, hx⟩ : ∃ x, R4[q]? = some x := ⟨_, List.getElem?_eq_getElem hq⟩
                  have hI := H4.out.later (HP.out.bel.trans (((Below.refl _ wr).drew).mono HP.out.bel.size))
                  obtain ⟨g3, c3, e3, hgl, _, hgp, q0, q1, -⟩ := hI.at_ hx
                  injection e3 with e3 en ec
                  clear en
                  injection e3 with e3
                  injection e3 with e3
                  subst e3
                  obtain ⟨y0, y1, y2, y3, y4, y5, y6, yl, _⟩ := kg7 hI.box
                  obtain ⟨u0, u1, u2, u3x, u4, u5, u6, ul, _⟩ := kg7 (H4.out.later HP.out.bel).box
                  have hok := H4.out.all x (List.mem_of_getElem? hx)
                  obtain ⟨tA, tc, et⟩ := own_slice hok.tr
                  obtain ⟨A5, c5, w5, hrun5, hR5⟩ := app_sub HP.out hx et (by omega) rfl
                  have HR5 := Lib.hid hR5
                  have hqi : (q : Int) < (R4.length : Int) := by omega
                  rw [et] at q1
                  clear hok hx hR5 hI et ec
                  generalize hi6 : q * 5 = i6 at *
                  go_wp2_with fail
                  go_region_law (refine step_append_run rfl (.tmp 63) (.tmp 81) 140 rfl (.slice B1 q e0) (.slice (some ⟨wr.heap.size, 0, none⟩) 1 1) (.slice A5 (q + 1) c5) (by simp [Act.eval]) (by simp [Act.eval]) hrun5 ?_)
                  all_goals
                    go_wp2_with fail
                    go_roundw
                    case rel => exact ⟨q + 1, A5, c5, by go_num, hq, rfl, HR5.out⟩
                    case measure => simp [intOf]; omega
                · have hqq : q = R4.length := by omega
                  subst hqq
                  have hki : ¬ (R4.length : Int) < (R4.length : Int) := by omega
                  have hsin := subs_in (by have := HP.out.row; rw [List.take_length] at this; exact this) rfl (fun x hx => (H4.out.all x hx).later HP.out.bel)
                  have HSIN := Lib.hid hsin
                  have HBW := Lib.hid HP.out.bel
                  obtain ⟨y0, y1, y2, y3, y4, y5, y6, yl, _⟩ := kg7 (H4.out.later HP.out.bel).box
                  have hchk : chkE (subsV R4) T = dealE G1.L T := by unfold dealE; rw [← HST.out, strip_chk]
                  have hcs := chk_cases (subsV R4) T
                  have HCH := Lib.hid hchk
                  rw [hchk] at hcs
                  clear hsin HP
                  rcases hcs with hE | hE
                  · have HE := Lib.hid hE
                    have cx := rrange_c (subsV R4) B1 e0 T A2 c2 wr HSIN.out (HT4.out.below HBW.out) hSz (by rw [HCH.out]; exact hE)
                    unfold GotSh at cx
                    simp only [subsV_len] at cx
                    clear hE hchk
                    go_wp2_with fail
                    with_reducible refine cx.mono ?_
                    rintro e w6 ⟨As, cs, Rs, rfl, hsh, hmr, hb6⟩
                    have HB6 := Lib.hid (HBW.out.trans (hb6.mono HBW.out.size))
                    have HSB : Hid (W4.heap.size ≤ wr.heap.size) := Lib.hid HBW.out.size
                    have hZ : wr.heap.size ≤ w6.heap.size := hb6.size
                    have cx2 := rround_c (subsV R4) B1 e0 T A2 c2 w6 (HSIN.out.below hb6) (HT4.out.below HB6.out) hSz (by rw [HCH.out]; exact HE.out)
                    unfold GotSh at cx2
                    simp only [subsV_len] at cx2
                    clear hsh hmr cx
                    go_wp2_with fail
                    with_reducible refine cx2.mono ?_
                    rintro e w7 ⟨As, cs, Rs, rfl, hsh, hmr, hb7⟩
                    replace HB6 := Lib.hid (HB6.out.trans (hb7.mono HB6.out.size))
                    replace HSB : Hid (W4.heap.size ≤ w6.heap.size) := Lib.hid (Nat.le_trans HSB.out hZ)
                    have cx := hb7
                    have HDD : Hid ((roundD (subsV R4) T).1 = (roundD (subsD G1.L) T).1) := Lib.hid (by rw [← HST.out, strip_round])
                    obtain ⟨bz, hbz⟩ : ∃ bz, w6.heap.size = bz := ⟨_, rfl⟩
                    rw [hbz] at HSB hsh
                    clear hbz cx2 hb7
                    have hRs : Rs.length = R4.length := by have := congrArg List.length hmr; simpa [subsV_len] using this
                    have HRs := Lib.hid hRs
                    have HST2 : Hid (KDs W4 B p (.slice (some ⟨g, 0, none⟩) R4.length c) R4 G1 bz (.slice As R4.length cs) ((roundD (subsD G1.L) T).1) Rs 0 w7) := Lib.hid ⟨Nat.zero_le _, by rw [dpR_zero]; exact (H4.out.later HB6.out).abs' rfl, by rw [← HDD.out]; exact hsh, Off.of_below _ HB6.out⟩
                    clear hb6 cx hsh hmr hRs
                    go_wp2_with fail
                    go_loopw [20] (fun j wx => ∃ q : Nat, j = .int .i64 q ∧ KDs W4 B p (.slice (some ⟨g, 0, none⟩) R4.length c) R4 G1 bz (.slice As R4.length cs) ((roundD (subsD G1.L) T).1) Rs q wx) (fun j _ => R4.length - (intOf j).toNat)
                    case atStart => exact ⟨0, rfl, HST2.out⟩
                    case round =>
                      obtain ⟨q, rfl, hD⟩ := hrel
                      have hle := hD.le
                      have HD := Lib.hid hD
                      clear HST2
                      by_cases hq : q < R4.length
                      · obtain ⟨x, hx⟩ : ∃ x, R4[q]? = some x := ⟨_, List.getElem?_eq_getElem hq⟩
                        obtain ⟨r, hr⟩ : ∃ r, Rs[q]? = some r := ⟨_, List.getElem?_eq_getElem (by rw [HRs.out]; exact hq)⟩
                        obtain ⟨y0, y1, y2, y3, y4, y5, y6, yl, f2, f3, f4, f5, f6⟩ := kg7 hD.is.box
                        obtain ⟨v0, v1, v2, v3, v4, v5, v6, vl, j2, j3, j4, j5, j6⟩ := kg7 hD.drew9.is.box
                        obtain ⟨g', c', e, hgl, _, hgp, -, -, -, -, q4, hf⟩ := hD.drew9.is.at_ (dpR_at hx)
                        injection e with e en ec
                        injection e with e
                        injection e with e
                        subst e
                        clear en ec
                        have hf4 := hf (q * 5 + 4)
                        obtain ⟨-, g3, eA, hg3, hb3, s0, s1, -⟩ := hD.drew9.sh.at_ hr
                        subst eA
                        obtain ⟨pA, pc, ep⟩ := own_slice (hD.sh.parts q r hr)
                        have HBg : Hid (g < bz) := Lib.hid (by
                          obtain ⟨g0, c0, e0', hg0, _⟩ := H4.out.at_ hx
                          have hgg : g = g0 := by simpa [Value.ownBlock] using congrArg Value.ownBlock e0'
                          rw [← hgg] at hg0
                          exact Nat.lt_of_lt_of_le hg0 HSB.out)
                        have HBB : Hid (B ≤ bz) := Lib.hid (Nat.le_trans (Nat.le_trans hBW O4.out.size) HSB.out)
                        obtain ⟨rn, rv⟩ := r
                        dsimp only at ep s0 s1
                        subst ep
                        have HST3 := Lib.hid (hD.step hx hr HBB.out HBg.out).drew9
                        have hqi : (q : Int) < (R4.length : Int) := by omega
                        dsimp only at HST3
                        clear hD hx hr hf HBg HBB HD hle
                        generalize (((roundD (subsD G1.L) T).1) q).length = pn at *
                        generalize hi7 : q * 5 = i7 at *
                        go_wp2_with fail
                        go_region
                        all_goals go_wp2_with fail
                        all_goals go_roundw
                        case rel => exact ⟨q + 1, by go_num, HST3.out⟩
                        case measure => simp [intOf]; omega
                      · have hqq : q = R4.length := by omega
                        subst hqq
                        have hqi : ¬ (R4.length : Int) < (R4.length : Int) := by omega
                        have HDG : Hid (dealD T true G1 = { G1 with ph := 3, un := 0, L := G1.L.mapIdx fun j x => { x with P := ((roundD (subsD G1.L) T).1) j } }) := Lib.hid (by unfold dealD; rw [HE.out, if_pos rfl]; rfl)
                        have HAB : Hid ((dpR ((roundD (subsD G1.L) T).1) Rs R4 R4.length).map MV.d = G1.L.mapIdx fun j x => { x with P := ((roundD (subsD G1.L) T).1) j }) := Lib.hid (dpR_abs H4.out.abs)
                        have o3 := (Off.one wr ⟨p, 2, none⟩ (.int .i64 3)).set (p := ⟨p, 5, none⟩) (.inl (show p = p from rfl)) (.int .i64 0)
                        have h3 := hD.is.put (G' := { G1 with ph := 3, un := 0, L := (dpR ((roundD (subsD G1.L) T).1) Rs R4 R4.length).map MV.d }) o3 ((hD.is.box.set 2 (.int .i64 3)).set 5 (.int .i64 0)) rfl
                        obtain ⟨x5, hx5⟩ : ∃ x, (dpR ((roundD (subsD G1.L) T).1) Rs R4 R4.length)[k]? = some x := ⟨_, List.getElem?_eq_getElem (by rw [dpR_len, HR4.out]; exact hkR)⟩
                        obtain ⟨y0, y1, y2, y3, y4, y5, y6, yl, f2, f3, f4, f5, f6⟩ := kg7 hD.is.box
                        obtain ⟨g5, c5, ev5, -, -, -, -, -, -, -, r4, -⟩ := hD.is.at_ hx5
                        have hg5 : g5 = g := by simpa [Value.ownBlock] using (congrArg Value.ownBlock ev5).symm
                        subst hg5
                        have hall5 := h3.all x5 (List.mem_of_getElem? hx5)
                        obtain ⟨pA, pc, epv⟩ := own_slice hall5.pr
                        rw [epv] at r4
                        have HPR : Hid (World.ownsRow _ B 34 2 (.slice pA x5.d.P.length pc) x5.d.P.length (prtC x5.d.P)) := Lib.hid (by have := hall5.pr; rw [epv] at this; exact this)
                        have H3 := Lib.hid h3
                        have O3 := Lib.hid ((O4.out.trans hD.off (fun _ _ e => e)).trans o3 (fun _ _ e => .inl e))
                        have hkq : (k : Int) < (R4.length : Int) := by rw [HR4.out]; exact hk1
                        clear hD h3 o3 HD hx5 ev5 hall5 epv hle
                        rw [hi5] at r4
                        go_wp2_with fail
                        go_ret2
                        rw [HE.out, HDG.out]
                        exact ⟨pA, pc, x5.d.P, rfl, HPR.out, _, _, H3.out.abs' (by rw [HAB.out]), O3.out, fun k hk => .inl hk⟩
                  · have HE := Lib.hid hE
                    have hD : dealD T true G1 = G1 := by unfold dealD; rw [hE, if_neg (by decide)]
                    have cx := rrange_bad (subsV R4) B1 e0 T A2 c2 wr HSIN.out (HT4.out.below HBW.out) hSl hTl hSz (by rw [HCH.out]; exact hE)
                    simp only [subsV_len] at cx
                    have HDG := Lib.hid hD
                    clear hE hD hchk
                    go_wp2_with fail
                    with_reducible refine cx.mono ?_
                    rintro e w6 ⟨rfl, hb6⟩
                    have HB6 := Lib.hid (HBW.out.trans (hb6.mono HBW.out.size))
                    have cx2 := rround_bad (subsV R4) B1 e0 T A2 c2 w6 (HSIN.out.below hb6) (HT4.out.below HB6.out) hSl hTl hSz (by rw [HCH.out]; exact HE.out)
                    simp only [subsV_len] at cx2
                    go_wp2_with fail
                    with_reducible refine cx2.mono ?_
                    rintro e w7 ⟨rfl, hb7⟩
                    replace HB6 := Lib.hid (HB6.out.trans (hb7.mono HB6.out.size))
                    clear hb7 cx2
                    clear hb6 cx
                    go_wp2_with fail
                    go_ret2
                    rw [HE.out, HDG.out]
                    exact KGot.no (H4.out.later HB6.out) (O4.out.later HB6.out) (fun k hk => .inl hk)
        · obtain ⟨k1, hk1'⟩ : ∃ k1, k = k1 + 1 := ⟨k - 1, by omega⟩
          have hml : m ≠ leadM G1 := lead_more (by rw [← hk1']; exact HKP.out)
          have e2D : sync2D m T round G1 = G1 := by unfold sync2D; rw [if_pos hph, if_neg hml]
          have e2E : sync2E m T G1 = 13 := by unfold sync2E; rw [if_pos hph, if_neg hml]
          have hkpos : (0 : Int) < (k : Int) := by omega
          rw [e2D, e2E]
          clear hph e2D e2E hkk hk1' hml
          go_enter Tryz.func56, Tryz.ntmps56
          go_wp2_with fail
          with_reducible refine (ct _).mono ?_
          rintro e w1 ⟨rfl, hw9⟩
          have hw8 := hw9.symm
          subst hw8
          clear hw9
          go_wp2_with fail
          with_reducible refine ck.mono ?_
          rintro e w2 ⟨rfl, hb2⟩
          have HB2 := Lib.hid hb2
          have cf2 := cf _ hb2
          clear hb2 cf ct ck
          go_wp2_with fail
          with_reducible refine cf2.mono ?_
          rintro e w3 ⟨rfl, hb3⟩
          have HB3 := Lib.hid (HB2.out.trans (hb3.mono HB2.out.size))
          have hbd : Below w3.heap.size w3 w3.drew := (Below.refl _ _).drew
          have I3d := HI.out.later (HB3.out.trans (hbd.mono HB3.out.size))
          obtain ⟨u3, s1, s2, s3, s4, s5, s6⟩ := HS.out _ I3d
          obtain ⟨R4, hR4, h4a, o4a⟩ := HH.out _ (HI.out.later HB3.out)
          have hbd8 : Below (w3.setCell ⟨g, k * 5 + 2, none⟩ (.int .i64 (now + G.ss))).heap.size (w3.setCell ⟨g, k * 5 + 2, none⟩ (.int .i64 (now + G.ss))) (w3.setCell ⟨g, k * 5 + 2, none⟩ (.int .i64 (now + G.ss))).drew := (Below.refl _ _).drew
          have h4 := h4a.later hbd8
          have H4 := Lib.hid h4
          have O4 := Lib.hid (((Off.of_below (GrS p (.slice (some ⟨g, 0, none⟩) R.length c)) HB3.out).trans o4a (fun _ _ e => e)).later hbd8)
          obtain ⟨z0, z1, z2, z3, z4, z5, z6, zl, _⟩ := kg7 h4.box
          have HR4 := Lib.hid hR4
          have hw : IntKind.i64.wrap (now + G.ss) = now + G.ss := by rw [IntKind.wrap_i64]; omega
          clear hb3 h4a o4a hR4 cf2 I3d hbd hbd8
          generalize hi5 : k * 5 = i5 at *
          go_wp2_with fail
          go_region
          all_goals
            clear s1 s2 s3 s4 s5 s6
            go_wp2_with fail
            go_ret2
            exact KGot.no H4.out O4.out (fun k hk => .inl hk)
      · have hph' : (G1.ph == 2) = false := beq_eq_false_iff_ne.2 hph
        have e2D : sync2D m T round G1 = G1 := by unfold sync2D; rw [if_neg hph]
        have e2E : sync2E m T G1 = 0 := by unfold sync2E; rw [if_neg hph]
        rw [e2D, e2E]
        clear hph e2D e2E
        go_enter Tryz.func56, Tryz.ntmps56
        go_wp2_with fail
        with_reducible refine (ct _).mono ?_
        rintro e w1 ⟨rfl, hw9⟩
        have hw8 := hw9.symm
        subst hw8
        clear hw9
        go_wp2_with fail
        with_reducible refine ck.mono ?_
        rintro e w2 ⟨rfl, hb2⟩
        have HB2 := Lib.hid hb2
        have cf2 := cf _ hb2
        clear hb2 cf ct ck
        go_wp2_with fail
        with_reducible refine cf2.mono ?_
        rintro e w3 ⟨rfl, hb3⟩
        have HB3 := Lib.hid (HB2.out.trans (hb3.mono HB2.out.size))
        have hbd : Below w3.heap.size w3 w3.drew := (Below.refl _ _).drew
        have I3d := HI.out.later (HB3.out.trans (hbd.mono HB3.out.size))
        obtain ⟨u3, s1, s2, s3, s4, s5, s6⟩ := HS.out _ I3d
        obtain ⟨R4, hR4, h4a, o4a⟩ := HH.out _ (HI.out.later HB3.out)
        have hbd8 : Below (w3.setCell ⟨g, k * 5 + 2, none⟩ (.int .i64 (now + G.ss))).heap.size (w3.setCell ⟨g, k * 5 + 2, none⟩ (.int .i64 (now + G.ss))) (w3.setCell ⟨g, k * 5 + 2, none⟩ (.int .i64 (now + G.ss))).drew := (Below.refl _ _).drew
        have h4 := h4a.later hbd8
        have H4 := Lib.hid h4
        have O4 := Lib.hid (((Off.of_below (GrS p (.slice (some ⟨g, 0, none⟩) R.length c)) HB3.out).trans o4a (fun _ _ e => e)).later hbd8)
        obtain ⟨z0, z1, z2, z3, z4, z5, z6, zl, _⟩ := kg7 h4.box
        have HR4 := Lib.hid hR4
        have hw : IntKind.i64.wrap (now + G.ss) = now + G.ss := by rw [IntKind.wrap_i64]; omega
        clear hb3 h4a o4a hR4 cf2 I3d hbd hbd8
        obtain ⟨x5, hx5⟩ : ∃ x, R4[k]? = some x := ⟨_, List.getElem?_eq_getElem (by rw [HR4.out]; exact hkR)⟩
        obtain ⟨g5, c5, ev5, -, -, -, -, -, -, -, r4, -⟩ := h4.at_ hx5
        have hg5 : g5 = g := by simpa [Value.ownBlock] using (congrArg Value.ownBlock ev5).symm
        subst hg5
        have hall5 := h4.all x5 (List.mem_of_getElem? hx5)
        obtain ⟨pA, pc, epv⟩ := own_slice hall5.pr
        rw [epv] at r4
        have HPR : Hid (World.ownsRow _ B 34 2 (.slice pA x5.d.P.length pc) x5.d.P.length (prtC x5.d.P)) := Lib.hid (by have := hall5.pr; rw [epv] at this; exact this)
        clear hx5 ev5 hall5 epv
        generalize hi5 : k * 5 = i5 at *
        go_wp2_with fail
        go_region
        all_goals
          clear s1 s2 s3 s4 s5 s6
          go_wp2_with fail
          go_ret2
          exact ⟨pA, pc, x5.d.P, rfl, HPR.out, _, R4, H4.out, O4.out, fun k hk => .inl hk⟩
    · have hE : syncE m gen T now G = knowE m gen G := by unfold syncE; rw [ht, if_pos rfl, if_neg hK]
      have hD : syncD m gen T round now G = G := by unfold syncD; rw [if_neg (fun e => hK e.2)]
      rw [hE, hD]
      have hK' : (knowE m gen G == 0) = false := beq_eq_false_iff_ne.2 hK
      obtain ⟨q, hq⟩ : ∃ q, knowE m gen G = q := ⟨_, rfl⟩
      rw [hq] at ck hK' ⊢
      clear h hG ht hE hD hTL hTz hT hTS hK hq
      go_enter Tryz.func56, Tryz.ntmps56
      go_wp2_with fail
      with_reducible refine (ct _).mono ?_
      rintro e w1 ⟨rfl, hw9⟩
      have hw8 := hw9.symm
      subst hw8
      clear hw9
      go_wp2_with fail
      with_reducible refine ck.mono ?_
      rintro e w2 ⟨rfl, hb2⟩
      go_wp2_with fail
      go_ret2
      exact KGot.no (HI.out.later hb2) (Off.of_below _ hb2) (fun k hk => .inl hk)
end Go.Proofs.YtlokhhjhckiloaaGreat
/- the document's answer: are two lists of parts the same: a contract that tells a bool, whichever. No condition. -/
namespace Go.Proofs.YtlokhhjhckiloaaGreat
open Go.RowKit
set_option linter.unusedVariables false
set_option maxRecDepth 100000 in
theorem eqin_part (d : Nat) (a b : ByteArray) (i j : Int) (w : World) : (Op.equalIn (d + 2) 34 (.agg #[.string a, .int .i64 i]) (.agg #[.string b, .int .i64 j])).run Tryz.prog w = .ok (a.toList == b.toList && i == j) w := by
  have u3 := Tryz.underlying3
  have u9 := Tryz.underlying9
  have a3 := Tryz.isAgg3
  have z3 := Tryz.sizeOf3
  have a9 := Tryz.isAgg9
  have z9 := Tryz.sizeOf9
  have hS : Tryz.prog.underlying 34 = some (.struct (Tryz.prog.fieldsOf 34)) := by kernel_rfl
  have hp : Tryz.prog.stoodInHeld 34 = false := by kernel_rfl
  rw [show d + 2 = (d + 1) + 1 from rfl, run_equalIn_agg w (d + 1) 34 _ _ hS hp]
  simp only [Program.fieldsOf, Tryz.underlying34]
  go_simp
  by_cases h1 : a.toList = b.toList <;> by_cases h2 : i = j <;> simp [h1, h2]
theorem part_eql (a b : ByteArray) (i j : Int) (w : World) : (binOp .eql 34 (.agg #[.string a, .int .i64 i]) (.agg #[.string b, .int .i64 j])).run Tryz.prog w = .ok (.bool (a.toList == b.toList && i == j)) w := by
  rw [run_eql_struct, show (10000 : Nat) = 9998 + 2 from rfl, eqin_part]; rfl
theorem part_neq (a b : ByteArray) (i j : Int) (w : World) : (binOp .neq 34 (.agg #[.string a, .int .i64 i]) (.agg #[.string b, .int .i64 j])).run Tryz.prog w = .ok (.bool (!(a.toList == b.toList && i == j))) w := by
  rw [run_neq_struct, show (10000 : Nat) = 9998 + 2 from rfl, eqin_part]; rfl
theorem part_guard (op : BinOp) (a b : Operand) (xs ys : Array Value) (w : World) : (eqGuard op 34 a b (.agg xs) (.agg ys)).run Tryz.prog w = .ok () w := run_eqGuard_agg w op 34 a b xs ys (by kernel_rfl)
set_option maxHeartbeats 4000000 in
set_option maxRecDepth 100000 in
theorem samePs_c (N M : List TX) (A : Option Addr) (c : Nat) (B : Option Addr) (d : Nat) (W : World) (hA : TpIn W A N) (hB : TpIn W B M) (hl : N.length ≤ 100000) :
    Calls Tryz.prog 28 #[.slice A N.length c, .slice B M.length d] W (fun e w' => ∃ b, e = .returned (.bool b) ∧ ∃ n, w' = W.drewN n) := by
  have HA := Lib.hid hA
  have HB := Lib.hid hB
  clear hA hB
  by_cases hnm : N.length = M.length
  · rw [← hnm]
    have HNM := Lib.hid hnm
    clear hnm
    go_enter Tryz.func28, Tryz.ntmps28
    go_wp2
    go_loopw [5] (fun j wr => ∃ k q : Nat, j = .int .i64 k ∧ k ≤ N.length ∧ wr = W.drewN q) (fun j _ => N.length - (intOf j).toNat)
    case atStart => exact ⟨0, 0, rfl, Nat.zero_le _, rfl⟩
    case round =>
      obtain ⟨k, q, rfl, hle, rfl⟩ := hrel
      by_cases hk : k < N.length
      · obtain ⟨b, off, rfl, hlt, x0, x1⟩ := HA.out.at_ hk
        have hk2 : k < M.length := by rw [← HNM.out]; exact hk
        obtain ⟨b2, off2, rfl, hlt2, y0, y1⟩ := HB.out.at_ hk2
        have hki : (k : Int) < (N.length : Int) := by omega
        have hk0 : (0 : Int) ≤ (k : Int) := by omega
        generalize N[k] = x at *
        generalize M[k] = y at *
        have hgd := fun (a b : Operand) w => part_guard .neq a b #[.string x.1, .int .i64 x.2] #[.string y.1, .int .i64 y.2] w
        have hneq := fun w => part_neq x.1 y.1 x.2 y.2 w
        cases hb : (x.1.toList == y.1.toList && x.2 == y.2) with
        | true =>
          simp only [hb, Bool.not_true] at hneq
          clear hb
          go_wp2_with fail
          go_quiet (fail)
          go_wp2_with fail
          go_roundw
          case rel => exact ⟨k + 1, _, by go_num, hk, by first | exact World.drewN_drewN _ _ _ | rfl⟩
          case measure => simp [intOf]; omega
        | false =>
          simp only [hb, Bool.not_false] at hneq
          clear hb
          go_wp2_with fail
          go_quiet (fail)
          go_wp2_with fail
          go_ret
          exact ⟨false, by rfl, _, by first | exact World.drewN_drewN _ _ _ | rfl⟩
      · have hki : ¬ (k : Int) < (N.length : Int) := by omega
        go_wp2_with fail
        go_ret
        exact ⟨.inr rfl, q, rfl⟩
  · have hne : ((N.length : Int) == (M.length : Int)) = false := beq_eq_false_iff_ne.2 (by omega)
    go_enter Tryz.func28, Tryz.ntmps28
    go_wp2_with fail
    go_ret
    refine ⟨false, ?_⟩
    exact ⟨by rfl, 0, rfl⟩
end Go.Proofs.YtlokhhjhckiloaaGreat
