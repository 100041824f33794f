/- assign: the document's Check, by a contract: the walk. No condition. -/
import Derived.Test.YthbcklamhoekmaaAsRc0
namespace Go.Proofs.Ythbcklamhoekmaa
open Go.RowKit
set_option linter.unusedVariables false
/-- Members' box, and the member ahead. -/
theorem below_drewN {B : Nat} {a w : World} (h : Below B a w) (n : Nat) : Below B a (w.drewN n) := ⟨h.os, h.tape, h.output, h.size, h.block⟩
theorem sub_later {w w' : World} {b bx i : Nat} {u v y : Value} (h : w.cell? ⟨bx, 0, none⟩ = some u ∧ w.cell? ⟨bx, 1, none⟩ = some v ∧ w.cell? ⟨b, i, none⟩ = some y ∧ bx < w.heap.size ∧ b < w.heap.size) (hb : Below w.heap.size w w') :
    w'.cell? ⟨bx, 0, none⟩ = some u ∧ w'.cell? ⟨bx, 1, none⟩ = some v ∧ w'.cell? ⟨b, i, none⟩ = some y ∧ bx < w'.heap.size ∧ b < w'.heap.size :=
  ⟨(hb.cell (p := ⟨bx, 0, none⟩) h.2.2.2.1).trans h.1, (hb.cell (p := ⟨bx, 1, none⟩) h.2.2.2.1).trans h.2.1, (hb.cell (p := ⟨b, i, none⟩) h.2.2.2.2).trans h.2.2.1, Nat.lt_of_lt_of_le h.2.2.2.1 hb.size, Nat.lt_of_lt_of_le h.2.2.2.2 hb.size⟩
theorem box2_later {w w' : World} {bx : Nat} {u v : Value} (h : w.cell? ⟨bx, 0, none⟩ = some u ∧ w.cell? ⟨bx, 1, none⟩ = some v ∧ bx < w.heap.size) (hb : Below w.heap.size w w') :
    w'.cell? ⟨bx, 0, none⟩ = some u ∧ w'.cell? ⟨bx, 1, none⟩ = some v ∧ bx < w'.heap.size :=
  ⟨(hb.cell (p := ⟨bx, 0, none⟩) h.2.2).trans h.1, (hb.cell (p := ⟨bx, 1, none⟩) h.2.2).trans h.2.1, Nat.lt_of_lt_of_le h.2.2 hb.size⟩
theorem cell3_later {w w' : World} {b i j k : Nat} {u v x : Value} (h : w.cell? ⟨b, i, none⟩ = some u ∧ w.cell? ⟨b, j, none⟩ = some v ∧ w.cell? ⟨b, k, none⟩ = some x ∧ b < w.heap.size) (hb : Below w.heap.size w w') : w'.cell? ⟨b, i, none⟩ = some u ∧ w'.cell? ⟨b, j, none⟩ = some v ∧ w'.cell? ⟨b, k, none⟩ = some x ∧ b < w'.heap.size :=
  ⟨(hb.cell (p := ⟨b, i, none⟩) h.2.2.2).trans h.1, (hb.cell (p := ⟨b, j, none⟩) h.2.2.2).trans h.2.1, (hb.cell (p := ⟨b, k, none⟩) h.2.2.2).trans h.2.2.1, Nat.lt_of_lt_of_le h.2.2.2 hb.size⟩
theorem okS_parts {m : Int} {T : List ByteArray} {A : Option Addr} {c : Nat} (h1 : ¬ m < 0) (h2 : ¬ 1073741824 < m) (h3 : ¬ 20 < T.length) (h4 : risesB bL T = true) : okS (m, T, A, c) = true := by
  unfold okS
  simp only
  rw [decide_eq_true (show 0 ≤ m by omega), decide_eq_true (show m ≤ 1073741824 by omega), decide_eq_true (show T.length ≤ 20 by omega), h4]
  rfl
theorem okS_not {m : Int} {T : List ByteArray} {A : Option Addr} {c : Nat} (h : m < 0 ∨ 1073741824 < m ∨ 20 < T.length ∨ risesB bL T = false) : okS (m, T, A, c) = false := by
  cases hh : okS (m, T, A, c) with
  | false => rfl
  | true =>
    unfold okS at hh
    simp only [Bool.and_eq_true, decide_eq_true_eq] at hh
    obtain ⟨⟨⟨q1, q2⟩, q3⟩, q4⟩ := hh
    rcases h with h | h | h | h
    · omega
    · omega
    · omega
    · rw [q4] at h; cases h
set_option maxHeartbeats 16000000 in
set_option maxRecDepth 100000 in
theorem rcheck_c (S : List SX) (A : Option Addr) (c : Nat) (T : List TX) (A2 : Option Addr) (c2 : Nat) (W : World) (hS : SbIn W A S) (hT : TpIn W A2 T) (hl : S.length ≤ 140737488351232) (hl2 : T.length ≤ 140737488351232) (hz : ∀ x ∈ S, x.2.1.length ≤ 140737488351232) :
    Calls Try.prog 74 #[.slice A S.length c, .slice A2 T.length c2] W (Good W (.int .i64 (chkE S T))) := by
  by_cases h1 : 20 < S.length
  · have h1' : (20 : Int) < (S.length : Int) := by omega
    rw [chk_S (T := T) (show mayS S = false by unfold mayS; rw [decide_eq_false (by omega)]; rfl)]
    go_enter Try.func74, Try.ntmps74
    go_wp2_with fail
    go_ret
    exact ⟨rfl, Below.refl _ _⟩
  have h1' : ¬ (20 : Int) < (S.length : Int) := by omega
  by_cases h2 : 20 < T.length
  · have h2' : (20 : Int) < (T.length : Int) := by omega
    rw [chk_T (S := S) (show mayT T = false by unfold mayT; rw [decide_eq_false (by omega)]; rfl)]
    go_enter Try.func74, Try.ntmps74
    go_wp2_with fail
    go_ret
    exact ⟨rfl, Below.refl _ _⟩
  have h2' : ¬ (20 : Int) < (T.length : Int) := by omega
  have HS := Lib.hid hS
  have HT := Lib.hid hT
  clear hS hT
  have HNS := Lib.hid (fun h => chk_S (S := S) (T := T) (mayS_all h))
  have HNR := Lib.hid (fun h => chk_S (S := S) (T := T) (mayS_ris h))
  have HNT := Lib.hid (fun h => chk_T (S := S) (T := T) (mayT_all h))
  have HNU := Lib.hid (fun h => chk_T (S := S) (T := T) (mayT_ris h))
  have HYY := Lib.hid (fun h h' => chk_both (S := S) (T := T) (mayS_yes (by omega) h) (mayT_yes (by omega) h'))
  go_enter Try.func74, Try.ntmps74
  go_wp2_with fail
  go_loopw [5] (fun j wr => ∃ k : Nat, j = .int .i64 k ∧ k ≤ S.length ∧ OkTo okS sL S k ∧ Below W.heap.size W wr) (fun j _ => S.length - (intOf j).toNat)
  case atStart => exact ⟨0, rfl, Nat.zero_le _, OkTo.zero _ _ _, Below.refl _ _⟩
  case round =>
    obtain ⟨k, rfl, hkl, hO, hB⟩ := hrel
    have HB := Lib.hid hB
    by_cases hk : k < S.length
    · have hki : (k : Int) < (S.length : Int) := by omega
      have hk00 : (0 : Int) ≤ (k : Int) := by omega
      have hx : S[k]? = some S[k] := List.getElem?_eq_getElem hk
      have hzk := hz _ (List.getElem_mem hk)
      have hL := HS.out.below HB.out
      obtain ⟨b, off, rfl, hlt, hcs⟩ := hL (by omega)
      obtain ⟨⟨y0, y1⟩, y2⟩ := hcs k _ hx
      have HX := Lib.hid hx
      have HO := Lib.hid hO
      have HCS := Lib.hid hcs
      clear hx hO hcs hB hL HS
      generalize S[k] = x at *
      obtain ⟨m, U, A', c'⟩ := x
      simp only at y0 y1 y2 hzk
      have hBt : Below wr.heap.size wr (wr.alloc (.cells #[.int .i64 m, .slice A' U.length c'] 78)) := (Below.refl _ _).alloc (Nat.le_refl _) _
      have HBT := Lib.hid (HB.out.trans (hBt.mono HB.out.size))
      have cr := fun n => rrise_c U A' c' ((wr.alloc (.cells #[.int .i64 m, .slice A' U.length c'] 78)).drewN n) (fun hp => (y2.below hBt) hp) hzk
      clear hBt y2
      have HNK : Hid ((m < 0 ∨ 1073741824 < m ∨ 20 < U.length ∨ risesB bL U = false) → chkE S T = 1) := Lib.hid (fun h => HNS.out (not_ok HX.out (okS_not h)))
      by_cases m1 : m < 0
      · skip
        have HC := Lib.hid (HNK.out (.inl m1))
        go_wp2_with fail
        go_quiet (fail)
        all_goals
          go_wp2_with fail
          go_ret
          exact ⟨by rw [HC.out]; rfl, below_drewN HBT.out _⟩
      have d1 : decide (m < 0) = false := decide_eq_false m1
      by_cases m2 : 1073741824 < m
      · skip
        have HC := Lib.hid (HNK.out (.inr (.inl m2)))
        go_wp2_with fail
        go_quiet (fail)
        all_goals
          go_wp2_with fail
          go_ret
          exact ⟨by rw [HC.out]; rfl, below_drewN HBT.out _⟩
      have d2 : decide (1073741824 < m) = false := decide_eq_false m2
      by_cases m3 : 20 < U.length
      · have m3i : (20 : Int) < (U.length : Int) := by omega
        have HC := Lib.hid (HNK.out (.inr (.inr (.inl m3))))
        go_wp2_with fail
        go_quiet (fail)
        all_goals
          go_wp2_with fail
          go_ret
          exact ⟨by rw [HC.out]; rfl, below_drewN HBT.out _⟩
      have d3 : decide ((20 : Int) < (U.length : Int)) = false := decide_eq_false (by omega)
      cases hr : risesB bL U with
      | false =>
        rw [hr] at cr
        have HC := Lib.hid (HNK.out (.inr (.inr (.inr hr))))
        clear hr
        go_wp2_with fail
        go_quiet (first | (go_at_call 89; exact Calls.quiet_of (cr _)))
        all_goals
          go_wp2_with fail
          go_ret
          exact ⟨by rw [HC.out]; rfl, below_drewN HBT.out _⟩
      | true =>
        rw [hr] at cr
        have HK := Lib.hid (okS_parts (A := A') (c := c') m1 m2 m3 hr)
        clear hr
        by_cases hk0 : k = 0
        · have hkn : decide ((0 : Int) < (k : Int)) = false := decide_eq_false (by omega)
          have hkp : decide (0 < k) = false := decide_eq_false (by omega)
          have HO1 : Hid (OkTo okS sL S (k + 1)) := Lib.hid (by subst hk0; exact OkTo.one HX.out HK.out)
          clear hk0
          go_wp2_with fail
          go_quiet (first | (go_at_call 89; exact Calls.quiet_of (cr _)))
          all_goals
            go_wp2_with fail
            go_roundw
            case rel => exact ⟨k + 1, by go_num, hk, HO1.out, below_drewN HBT.out _⟩
            case measure => simp [intOf]; omega
        · obtain ⟨j, hj⟩ : ∃ j, k = j + 1 := ⟨k - 1, by omega⟩
          have hkn : (0 : Int) < (k : Int) := by omega
          have hkp : 0 < k := by omega
          have hjx : S[j]? = some (S[j]'(by omega)) := List.getElem?_eq_getElem (by omega)
          obtain ⟨⟨z0, _⟩, _⟩ := HCS.out j _ hjx
          have HJX := Lib.hid hjx
          clear hjx
          generalize (S[j]'(by omega)) = y at *
          obtain ⟨m0, U0, A0, c0⟩ := y
          simp only at z0
          have hw : IntKind.i64.wrap ((k : Int) - 1) = (j : Int) := by rw [IntKind.wrap_i64]; omega
          have hj0 : (0 : Int) ≤ (j : Int) := by omega
          have hj1 : (j : Int) < (S.length : Int) := by omega
          by_cases hm : m0 < m
          · have hm' : decide (m ≤ m0) = false := decide_eq_false (by omega)
            have HO1 : Hid (OkTo okS sL S (k + 1)) := Lib.hid (by subst hj; exact OkTo.succ HO.out HJX.out HX.out HK.out (decide_eq_true hm))
            clear hj hk0
            go_wp2_with fail
            go_quiet (first | (go_at_call 89; exact Calls.quiet_of (cr _)))
            all_goals
              go_wp2_with fail
              go_roundw
              case rel => exact ⟨k + 1, by go_num, hk, HO1.out, below_drewN HBT.out _⟩
              case measure => simp [intOf]; omega
          · have hm' : m ≤ m0 := by omega
            have HC := Lib.hid (HNR.out (rises_not HJX.out (by rw [← hj]; exact HX.out) (decide_eq_false hm)))
            clear hj hk0
            go_wp2_with fail
            go_quiet (first | (go_at_call 89; exact Calls.quiet_of (cr _)))
            all_goals
              go_wp2_with fail
              go_ret
              exact ⟨by rw [HC.out]; rfl, below_drewN HBT.out _⟩
    · have HAS := Lib.hid (hO.all (by omega))
      have hki : ¬ (k : Int) < (S.length : Int) := by omega
      have HYT := Lib.hid (fun h => HYY.out HAS.out h)
      clear HYY HAS hO hB HS HNS HNR
      go_wp2_with fail
      go_loopw [7] (fun j wr => ∃ k : Nat, j = .int .i64 k ∧ k ≤ T.length ∧ OkTo okT tL T k ∧ Below W.heap.size W wr) (fun j _ => T.length - (intOf j).toNat)
      case atStart => exact ⟨0, rfl, Nat.zero_le _, OkTo.zero _ _ _, HB.out⟩
      case round =>
        clear HB
        obtain ⟨k, rfl, hkl, hO, hB⟩ := hrel
        have HB := Lib.hid hB
        by_cases hk : k < T.length
        · have hki : (k : Int) < (T.length : Int) := by omega
          have hk00 : (0 : Int) ≤ (k : Int) := by omega
          have hx : T[k]? = some T[k] := List.getElem?_eq_getElem hk
          have hL := HT.out.below HB.out
          obtain ⟨b, off, rfl, hlt, hcs⟩ := hL (by omega)
          obtain ⟨y0, y1⟩ := hcs k _ hx
          have HX := Lib.hid hx
          have HO := Lib.hid hO
          have HCS := Lib.hid hcs
          clear hx hO hcs hB hL HT
          generalize T[k] = x at *
          obtain ⟨s, n⟩ := x
          simp only at y0 y1
          by_cases n1 : n < 1
          · have HC := Lib.hid (HNT.out (not_ok HX.out (show okT (s, n) = false by unfold okT; rw [decide_eq_false (by omega)]; rfl)))
            go_wp2_with fail
            go_quiet (fail)
            all_goals
              go_wp2_with fail
              go_ret
              exact ⟨by rw [HC.out]; rfl, below_drewN HB.out _⟩
          have d1 : decide (n < 1) = false := decide_eq_false n1
          by_cases n2 : 16 < n
          · have HC := Lib.hid (HNT.out (not_ok HX.out (show okT (s, n) = false by unfold okT; rw [decide_eq_false (show ¬ n ≤ 16 by omega)]; simp)))
            go_wp2_with fail
            go_quiet (fail)
            all_goals
              go_wp2_with fail
              go_ret
              exact ⟨by rw [HC.out]; rfl, below_drewN HB.out _⟩
          have d2 : decide (16 < n) = false := decide_eq_false n2
          have HK : Hid (okT (s, n) = true) := Lib.hid (okT_iff.2 ⟨by simp only; omega, by simp only; omega⟩)
          by_cases hk0 : k = 0
          · have hkn : decide ((0 : Int) < (k : Int)) = false := decide_eq_false (by omega)
            have hkp : decide (0 < k) = false := decide_eq_false (by omega)
            have HO1 : Hid (OkTo okT tL T (k + 1)) := Lib.hid (by subst hk0; exact OkTo.one HX.out HK.out)
            clear hk0
            go_wp2_with fail
            go_quiet (fail)
            all_goals
              go_wp2_with fail
              go_roundw
              case rel => exact ⟨k + 1, by go_num, hk, HO1.out, below_drewN HB.out _⟩
              case measure => simp [intOf]; omega
          · obtain ⟨j, hj⟩ : ∃ j, k = j + 1 := ⟨k - 1, by omega⟩
            have hkn : (0 : Int) < (k : Int) := by omega
            have hkp : 0 < k := by omega
            have hjx : T[j]? = some (T[j]'(by omega)) := List.getElem?_eq_getElem (by omega)
            obtain ⟨z0, _⟩ := HCS.out j _ hjx
            have HJX := Lib.hid hjx
            clear hjx
            generalize (T[j]'(by omega)) = y at *
            obtain ⟨s0, n0⟩ := y
            simp only at z0
            have hw : IntKind.i64.wrap ((k : Int) - 1) = (j : Int) := by rw [IntKind.wrap_i64]; omega
            have hj0 : (0 : Int) ≤ (j : Int) := by omega
            have hj1 : (j : Int) < (T.length : Int) := by omega
            have HOY : Hid (Op.bytesLess s0.toList s.toList = true → OkTo okT tL T (k + 1)) := Lib.hid (fun h => by subst hj; exact OkTo.succ HO.out HJX.out HX.out HK.out h)
            have HON : Hid (Op.bytesLess s0.toList s.toList = false → chkE S T = 1) := Lib.hid (fun h => HNU.out (rises_not HJX.out (by rw [← hj]; exact HX.out) (show tL (s0, n0) (s, n) = false from h)))
            clear hj hk0
            go_wp2_with fail
            go_quiet (fail)
            all_goals
              cases hd : Op.bytesLess s0.toList s.toList with
              | true =>
                have HD := Lib.hid (HOY.out hd)
                clear hd
                go_wp2_with fail
                go_roundw
                case rel => exact ⟨k + 1, by go_num, hk, HD.out, below_drewN HB.out _⟩
                case measure => simp [intOf]; omega
              | false =>
                have HD := Lib.hid (HON.out hd)
                clear hd
                go_wp2_with fail
                go_ret
                exact ⟨by rw [HD.out]; rfl, below_drewN HB.out _⟩
        · have HAT := Lib.hid (HYT.out (hO.all (by omega)))
          have hki' : ¬ (k : Int) < (T.length : Int) := by omega
          clear hO hB
          go_wp2_with fail
          go_ret
          exact ⟨by rw [HAT.out]; rfl, HB.out⟩
end Go.Proofs.Ythbcklamhoekmaa
