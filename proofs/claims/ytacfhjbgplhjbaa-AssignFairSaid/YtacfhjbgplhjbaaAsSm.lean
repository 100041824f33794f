/- assign: lists that are the same, and whether there are few, by contracts. No condition. -/
import Derived.Test.YtacfhjbgplhjbaaAsRc
namespace Go.Proofs.Ytacfhjbgplhjbaa
open Go.RowKit
set_option linter.unusedVariables false
set_option maxHeartbeats 4000000 in
theorem sameP_c (N : List TX) (A : Option Addr) (c : Nat) (B : Option Addr) (d : Nat) (W : World) (hA : TpIn W A N) (hB : TpIn W B N) (hl : N.length ≤ 100000) :
    Calls Try.prog 25 #[.slice A N.length c, .slice B N.length d] W (fun e w' => e = .returned (.bool true) ∧ ∃ n, w' = W.drewN n) := by
  have HA := Lib.hid hA
  have HB := Lib.hid hB
  clear hA hB
  go_enter Try.func25, Try.ntmps25
  go_wp2
  go_loopw [5] (fun j wr => ∃ k q : Nat, j = .int .i64 k ∧ k ≤ N.length ∧ wr = W.drewN q) (fun j _ => N.length - (intOf j).toNat)
  case atStart => exact ⟨0, 0, rfl, Nat.zero_le _, rfl⟩
  case round =>
    obtain ⟨k, q, rfl, hle, rfl⟩ := hrel
    by_cases hk : k < N.length
    · obtain ⟨b, off, rfl, hlt, x0, x1⟩ := HA.out.at_ hk
      obtain ⟨b2, off2, rfl, hlt2, y0, y1⟩ := HB.out.at_ hk
      have hki : (k : Int) < (N.length : Int) := by omega
      have hk0 : (0 : Int) ≤ (k : Int) := by omega
      generalize N[k] = x at *
      go_wp2_with fail
      go_quiet (fail)
      all_goals
        go_wp2_with fail
        go_roundw
        case rel => exact ⟨k + 1, _, by go_num, hk, by first | exact World.drewN_drewN _ _ _ | rfl⟩
        case measure => simp [intOf]; omega
    · have hki : ¬ (k : Int) < (N.length : Int) := by omega
      go_wp2_with fail
      go_ret
      exact ⟨rfl, q, rfl⟩
/-- Shares in a row. -/
def ShIn (w : World) (A : Option Addr) (L : List (Int × List TX)) : Prop :=
  0 < L.length → ∃ b off, A = some ⟨b, off, none⟩ ∧ b < w.heap.size ∧ ∀ j x, L[j]? = some x → ∃ P c, w.cell? ⟨b, off + j * 2, none⟩ = some (.int .i64 x.1) ∧ w.cell? ⟨b, off + j * 2 + 1, none⟩ = some (.slice P x.2.length c) ∧ TpIn w P x.2
theorem ShIn.below {w w' : World} {A : Option Addr} {L : List (Int × List TX)} (h : ShIn w A L) (hb : Below w.heap.size w w') : ShIn w' A L := fun hp => by
  obtain ⟨b, off, e, hlt, hc⟩ := h hp
  refine ⟨b, off, e, Nat.lt_of_lt_of_le hlt hb.size, fun j x hx => ?_⟩
  obtain ⟨P, c, h1, h2, h3⟩ := hc j x hx
  exact ⟨P, c, (hb.cell (p := ⟨b, off + j * 2, none⟩) hlt).trans h1, (hb.cell (p := ⟨b, off + j * 2 + 1, none⟩) hlt).trans h2, h3.below hb⟩
theorem ShIn.at_ {w : World} {A : Option Addr} {L : List (Int × List TX)} (h : ShIn w A L) {k : Nat} {x : Int × List TX} (hk : L[k]? = some x) : ∃ b off, A = some ⟨b, off, none⟩ ∧ b < w.heap.size ∧ ∃ P c, w.cell? ⟨b, off + k * 2, none⟩ = some (.int .i64 x.1) ∧ w.cell? ⟨b, off + k * 2 + 1, none⟩ = some (.slice P x.2.length c) ∧ TpIn w P x.2 := by
  obtain ⟨b, off, e, hlt, hc⟩ := h (by have := (List.getElem?_eq_some_iff.1 hk).1; omega)
  exact ⟨b, off, e, hlt, hc k x hk⟩
theorem ShIn.take {w : World} {A : Option Addr} {L : List (Int × List TX)} (h : ShIn w A L) (n : Nat) : ShIn w A (L.take n) := fun hp => by
  have : 0 < L.length := by rw [List.length_take] at hp; omega
  obtain ⟨b, off, e, hlt, hc⟩ := h this
  refine ⟨b, off, e, hlt, fun j x hx => hc j x ?_⟩
  rw [List.getElem?_take] at hx
  split at hx
  · exact hx
  · cases hx
set_option maxHeartbeats 8000000 in
set_option maxRecDepth 100000 in
theorem same_c (L : List (Int × List TX)) (A : Option Addr) (c : Nat) (B : Option Addr) (d : Nat) (W : World) (hA : ShIn W A L) (hB : ShIn W B L) (hl : L.length ≤ 100000) (hz : ∀ x ∈ L, x.2.length ≤ 100000) :
    Calls Try.prog 13 #[.slice A L.length c, .slice B L.length d] W (fun e w' => e = .returned (.bool true) ∧ ∃ n, w' = W.drewN n) := by
  have HA := Lib.hid hA
  have HB := Lib.hid hB
  clear hA hB
  go_enter Try.func13, Try.ntmps13
  go_wp2
  go_loopw [5] (fun j wr => ∃ k q : Nat, j = .int .i64 k ∧ k ≤ L.length ∧ wr = W.drewN q) (fun j _ => L.length - (intOf j).toNat)
  case atStart => exact ⟨0, 0, rfl, Nat.zero_le _, rfl⟩
  case round =>
    obtain ⟨k, q, rfl, hle, rfl⟩ := hrel
    by_cases hk : k < L.length
    · have hx : L[k]? = some L[k] := List.getElem?_eq_getElem hk
      obtain ⟨b, off, rfl, hlt, P1, c1, x0, x1, x2⟩ := HA.out.at_ hx
      obtain ⟨b2, off2, rfl, hlt2, P2, c2, y0, y1, y2⟩ := HB.out.at_ hx
      have hki : (k : Int) < (L.length : Int) := by omega
      have hk0 : (0 : Int) ≤ (k : Int) := by omega
      have hzk := hz _ (List.getElem_mem hk)
      clear hx hz
      generalize L[k] = x at *
      have cp := fun n => sameP_c x.2 P1 c1 P2 c2 (W.drewN n) (fun hp => x2 hp) (fun hp => y2 hp) hzk
      have hne : (!decide (x.1 = x.1)) = false := by simp
      clear x2 y2
      go_wp2_with fail
      go_quiet (first | exact Calls.quiet_of (cp _) | exact (cp _).mono fun _ _ ⟨he, _, hm⟩ => ⟨he, _, hm.trans ((World.drewN_drewN _ _ _).trans (congrArg (World.drewN W) (Nat.add_assoc _ _ _)))⟩)
      all_goals
        go_wp2_with fail
        go_roundw
        case rel => exact ⟨k + 1, _, by go_num, hk, by first | exact World.drewN_drewN _ _ _ | rfl⟩
        case measure => simp [intOf]; omega
    · have hki : ¬ (k : Int) < (L.length : Int) := by omega
      go_wp2_with fail
      go_ret
      exact ⟨rfl, q, rfl⟩
/-- Few? -/
def fewB (S : List SX) (T : List TX) : Bool := decide (S.length ≤ 30) && decide (T.length ≤ 30) && S.all fun x => decide (x.2.1.length ≤ 30)
set_option maxHeartbeats 4000000 in
theorem few_c (S : List SX) (A : Option Addr) (c : Nat) (T : List TX) (A2 : Option Addr) (c2 : Nat) (W : World) (hS : SbIn W A S) (hl : S.length ≤ 140737488351232) (hl2 : T.length ≤ 140737488351232) (hz : ∀ x ∈ S, x.2.1.length ≤ 140737488351232) :
    Calls Try.prog 7 #[.slice A S.length c, .slice A2 T.length c2] W (Good W (.bool (fewB S T))) := by
  unfold fewB
  by_cases h1 : 30 < S.length
  · have h1' : (30 : Int) < (S.length : Int) := by omega
    rw [decide_eq_false (show ¬ S.length ≤ 30 by omega)]
    go_enter Try.func7, Try.ntmps7
    go_wp2_with fail
    go_ret
    exact ⟨rfl, Below.refl _ _⟩
  have h1' : ¬ (30 : Int) < (S.length : Int) := by omega
  by_cases h2 : 30 < T.length
  · have h2' : (30 : Int) < (T.length : Int) := by omega
    rw [decide_eq_true (show S.length ≤ 30 by omega), decide_eq_false (show ¬ T.length ≤ 30 by omega)]
    go_enter Try.func7, Try.ntmps7
    go_wp2_with fail
    go_ret
    exact ⟨rfl, Below.refl _ _⟩
  have h2' : ¬ (30 : Int) < (T.length : Int) := by omega
  rw [decide_eq_true (show S.length ≤ 30 by omega), decide_eq_true (show T.length ≤ 30 by omega)]
  have HS := Lib.hid hS
  clear hS
  go_enter Try.func7, Try.ntmps7
  go_wp2_with fail
  go_loopw [5] (fun j wr => ∃ k : Nat, j = .int .i64 k ∧ IdxAt (fun x : SX => decide (x.2.1.length ≤ 30)) W S k wr) (fun j _ => S.length - (intOf j).toNat)
  case atStart => exact ⟨0, rfl, Nat.zero_le _, rfl, Below.refl _ _⟩
  case round =>
    obtain ⟨k, rfl, hR⟩ := hrel
    have hle := hR.le
    have HR := Lib.hid hR
    clear hR
    by_cases hk : k < S.length
    · obtain ⟨b, off, rfl, hlt, y0, y1, _⟩ := (HS.out.below HR.out.bel).at_ hk
      have hki : (k : Int) < (S.length : Int) := by omega
      have hzk := hz _ (List.getElem_mem hk)
      have hs1 := Lib.hid (all_take_succ (ok := fun x : SX => decide (x.2.1.length ≤ 30)) hk)
      have hs2 := Lib.hid (all_false (ok := fun x : SX => decide (x.2.1.length ≤ 30)) hk)
      clear hz
      generalize S[k] = x at *
      by_cases hx : 30 < x.2.1.length
      · have hx' : (30 : Int) < (x.2.1.length : Int) := by omega
        have HD := Lib.hid (hs2.out (decide_eq_false (by omega)))
        go_wp2_with fail
        go_ret
        exact ⟨by rw [HD.out]; rfl, HR.out.bel⟩
      · have hx' : ¬ (30 : Int) < (x.2.1.length : Int) := by omega
        have HD : Hid ((List.take (k + 1) S).all (fun x : SX => decide (x.2.1.length ≤ 30)) = true) := Lib.hid (by rw [hs1.out, HR.out.ok, decide_eq_true (by omega)]; rfl)
        go_wp2_with fail
        go_roundw
        case rel => exact ⟨k + 1, by go_num, hk, HD.out, HR.out.bel⟩
        case measure => simp [intOf]; omega
    · have HA : Hid (S.all (fun x : SX => decide (x.2.1.length ≤ 30)) = true) := Lib.hid (by have h2 := HR.out.ok; rwa [List.take_of_length_le (by omega)] at h2)
      have hki : ¬ (k : Int) < (S.length : Int) := by omega
      go_wp2_with fail
      go_ret
      exact ⟨by rw [HA.out]; rfl, HR.out.bel⟩
end Go.Proofs.Ytacfhjbgplhjbaa
