/- assign: who wants a topic; a topic's partitions; who is next: by contracts. No condition. -/
import Derived.Test.YtlokhhjhckiloaaGreatAsRow
import Derived.Test.YtlokhhjhckiloaaGreatAsClone
namespace Go.Proofs.YtlokhhjhckiloaaGreat
open Go.RowKit
set_option linter.unusedVariables false
theorem beq_str (a b : ByteArray) : (a.toList == b.toList) = decide (a = b) := by
  rw [Bool.eq_iff_iff, beq_iff_eq, decide_eq_true_eq, ByteArray.toList_eq, ByteArray.toList_eq]
  constructor
  · intro h
    have := Array.toList_inj.1 h
    exact ByteArray.ext this
  · intro h
    rw [h]
/-- The first place of a text, or -1. -/
def Idx (T : List ByteArray) (s : ByteArray) (W : World) (e : Ending) (w' : World) : Prop := ∃ n : Int, e = .returned (.int .i64 n) ∧ decide (0 ≤ n) = hasB T s ∧ Below W.heap.size W w'
set_option maxHeartbeats 2000000 in
theorem idx_c (T : List ByteArray) (A : Option Addr) (c : Nat) (s : ByteArray) (W : World) (hH : StrIn W A T) (hl : T.length ≤ 140737488351232) :
    Calls Tryz.prog 155 #[.slice A T.length c, .string s] W (Idx T s W) := by
  go_enter Tryz.func155, Tryz.ntmps155
  have HH := Lib.hid hH
  clear hH
  go_wp2
  go_loopw [5, 8] (fun i j wr => ∃ k : Nat, j = .int .i64 k ∧ k ≤ T.length ∧ hasB (T.take k) s = false ∧ Below W.heap.size W wr) (fun _ j _ => T.length - (intOf j).toNat)
  case atStart => exact ⟨0, rfl, Nat.zero_le _, rfl, Below.refl _ _⟩
  case round =>
    obtain ⟨k, rfl, hle, hF, hB⟩ := hrel
    by_cases hk : k < T.length
    · have hx : T[k]? = some T[k] := List.getElem?_eq_getElem hk
      obtain ⟨b, off, rfl, hlt, g1⟩ := (HH.out.below hB).at_ hk
      have HT := Lib.hid (hasB_take (s := s) hx)
      have HY := Lib.hid (hasB_yes (s := s) hx)
      have HF := Lib.hid hF
      clear hx hF
      generalize T[k] = t at *
      by_cases ht : t = s
      · have hq : (s.toList == t.toList) = true := by rw [beq_str]; exact decide_eq_true ht.symm
        have HYY := Lib.hid (HY.out ht)
        go_wp2_with fail
        go_ret
        exact ⟨k, rfl, by rw [HYY.out]; simp, hB⟩
      · have hq : (s.toList == t.toList) = false := by rw [beq_str]; exact decide_eq_false (fun h => ht h.symm)
        have HN : Hid (hasB (T.take (k + 1)) s = false) := Lib.hid (by rw [HT.out, HF.out, decide_eq_false ht]; rfl)
        clear HT HY HF
        go_wp2_with fail
        go_roundw
        case rel => exact ⟨k + 1, by go_num, hk, HN.out, hB⟩
        case measure => simp [intOf]; omega
    · have HA : Hid (hasB T s = false) := Lib.hid (hasB_all (by omega) hF)
      clear hF
      go_wp2_with fail
      go_ret
      exact ⟨-1, rfl, by rw [HA.out]; rfl, hB⟩
theorem has_c (T : List ByteArray) (A : Option Addr) (c : Nat) (s : ByteArray) (W : World) (hH : StrIn W A T) (hl : T.length ≤ 140737488351232) :
    Calls Tryz.prog 141 #[.slice A T.length c, .string s] W (Good W (.bool (hasB T s))) := by
  have hi := idx_c T A c s W hH hl
  clear hH
  go_enter Tryz.func141, Tryz.ntmps141
  go_wp2_with ((with_reducible refine hi.mono ?_); rintro e w1 ⟨n, rfl, hn, hb1⟩; have HN := Lib.hid hn; clear hn)
  go_ret
  exact ⟨ret_bool HN.out, hb1⟩
set_option maxHeartbeats 2000000 in
theorem wants_c (x : SX) (s : ByteArray) (W : World) (hH : StrIn W x.2.2.1 x.2.1) (hl : x.2.1.length ≤ 140737488351232) :
    Calls Tryz.prog 119 #[sbV x, .string s] W (Good W (.bool (hasB x.2.1 s))) := by
  obtain ⟨m, T, A, c⟩ := x
  simp only at hH hl
  have HX := Lib.hid (Box.new W 142 #[.int .i64 m, .slice A T.length c])
  have hB : Below W.heap.size W (W.alloc (.cells #[.int .i64 m, .slice A T.length c] 142)) := (Below.refl _ _).alloc (Nat.le_refl _) _
  have HH := Lib.hid (hH.below hB)
  have HB := Lib.hid hB
  clear hH hB
  have hc := fun w (h : Box w W.heap.size 142 #[.int .i64 m, .slice A T.length c]) => (h.cell 1).trans (show _ = some (Value.slice A T.length c) from rfl)
  unfold sbV sbC
  simp only
  go_enter Tryz.func119, Tryz.ntmps119
  go_wp2
  go_loopw [5] (fun j wr => ∃ k : Nat, j = .int .i64 k ∧ k ≤ T.length ∧ hasB (T.take k) s = false ∧ Below (W.alloc (.cells #[.int .i64 m, .slice A T.length c] 142)).heap.size (W.alloc (.cells #[.int .i64 m, .slice A T.length c] 142)) wr) (fun j _ => T.length - (intOf j).toNat)
  case atStart => exact ⟨0, rfl, Nat.zero_le _, rfl, Below.refl _ _⟩
  case round =>
    obtain ⟨k, rfl, hle, hF, hB⟩ := hrel
    have h1 := hc _ (HX.out.later hB)
    by_cases hk : k < T.length
    · have hx : T[k]? = some T[k] := List.getElem?_eq_getElem hk
      obtain ⟨b, off, rfl, hlt, g1⟩ := (HH.out.below hB).at_ hk
      have HT := Lib.hid (hasB_take (s := s) hx)
      have HY := Lib.hid (hasB_yes (s := s) hx)
      have HF := Lib.hid hF
      have hki : (k : Int) < (T.length : Int) := by omega
      have HBW := Lib.hid hB
      clear hx hF hc hB
      generalize T[k] = t at *
      by_cases ht : t = s
      · have HYY := Lib.hid (HY.out ht)
        have hq : (t.toList == s.toList) = true := by rw [beq_str]; exact decide_eq_true ht
        go_wp2_with fail
        go_ret
        exact ⟨by rw [HYY.out]; rfl, HB.out.trans (HBW.out.mono HB.out.size)⟩
      · have hq : (t.toList == s.toList) = false := by rw [beq_str]; exact decide_eq_false ht
        have HN : Hid (hasB (T.take (k + 1)) s = false) := Lib.hid (by rw [HT.out, HF.out, decide_eq_false ht]; rfl)
        clear HT HY HF
        go_wp2_with fail
        go_roundw
        case rel => exact ⟨k + 1, by go_num, hk, HN.out, HBW.out⟩
        case measure => simp [intOf]; omega
    · have HA : Hid (hasB T s = false) := Lib.hid (hasB_all (by omega) hF)
      have hki : ¬ (k : Int) < (T.length : Int) := by omega
      have HBW := Lib.hid hB
      clear hF hc hB
      go_wp2_with fail
      go_ret
      exact ⟨by rw [HA.out]; rfl, HB.out.trans (HBW.out.mono HB.out.size)⟩
/-- The first one behind a place, or the first of all. -/
def behG (L : List Nat) (last : Int) : Nat := (L.find? fun (t : Nat) => decide (last < (t : Int))).getD (L.headD 0)
set_option maxHeartbeats 2000000 in
theorem behind_c (L : List Nat) (A : Option Addr) (c base : Nat) (last : Int) (W : World) (hH : W.ownsRow base 3 1 (.slice A L.length c) L.length (intsC L)) (hp : 0 < L.length) (hl : L.length ≤ 140737488351232) :
    Calls Tryz.prog 126 #[.slice A L.length c, .int .i64 last] W (Good W (.int .i64 (behG L last))) := by
  have h0 : L[0]? = some L[0] := List.getElem?_eq_getElem hp
  obtain ⟨g, rfl, hlt, y0⟩ := ints_at hH h0
  have HH := Lib.hid hH
  have HZ : Hid (L.headD 0 = L[0]) := Lib.hid (by cases L with | nil => simp at hp | cons a L => rfl)
  clear hH h0
  have HZ' : Hid (L.head?.getD 0 = L[0]) := Lib.hid (by cases L with | nil => simp at hp | cons a L => rfl)
  unfold behG
  go_enter Tryz.func126, Tryz.ntmps126
  go_wp2_with fail
  go_loopw [6, 9] (fun _ j wr => ∃ k : Nat, j = .int .i64 k ∧ k ≤ L.length ∧ (∀ (i : Nat) (x : Nat), i < k → L[i]? = some x → decide (last < (x : Int)) = false) ∧ Below W.heap.size W wr) (fun _ j _ => L.length - (intOf j).toNat)
  case atStart => exact ⟨0, rfl, Nat.zero_le _, fun i x hi => absurd hi (Nat.not_lt_zero _), Below.refl _ _⟩
  case round =>
    obtain ⟨k, rfl, hle, hF, hB⟩ := hrel
    have y0' := (hB.cell (p := ⟨g, 0, none⟩) hlt).trans y0
    by_cases hk : k < L.length
    · have hx : L[k]? = some L[k] := List.getElem?_eq_getElem hk
      obtain ⟨g', e', hlt', y1⟩ := ints_at (own_below HH.out hB) hx
      have eg : g' = g := by injection e' with e'; injection e' with e'; exact e'.symm
      subst eg
      have hki : (k : Int) < (L.length : Int) := by omega
      have hk0 : (0 : Int) ≤ (k : Int) := by omega
      by_cases ht : last < (L[k] : Int)
      · have hr : L.find? (fun (t : Nat) => decide (last < (t : Int))) = some L[k] := by
          rw [List.find?_eq_some_iff_getElem]
          refine ⟨decide_eq_true ht, k, hk, rfl, fun j hj => ?_⟩
          rw [hF j _ hj (List.getElem?_eq_getElem (by omega))]; rfl
        have HR := Lib.hid hr
        clear hr hF hx e'
        generalize L[k] = t at *
        go_wp2_with fail
        go_ret
        exact ⟨by rw [HR.out]; rfl, hB⟩
      · have HN := Lib.hid hF
        have HX := Lib.hid hx
        have HTT := Lib.hid ht
        clear hF hx e'
        generalize L[k] = t at *
        go_wp2_with fail
        go_roundw
        case rel =>
          refine ⟨k + 1, by go_num, hk, fun i x hi hx => ?_, hB⟩
          by_cases e : i = k
          · subst e
            rw [HX.out] at hx
            injection hx with hx
            subst hx
            exact decide_eq_false HTT.out
          · exact HN.out i x (by omega) hx
        case measure => simp [intOf]; omega
    · have hr : L.find? (fun (t : Nat) => decide (last < (t : Int))) = none := by
        rw [List.find?_eq_none]
        intro x hx
        obtain ⟨i, hi⟩ := List.getElem?_of_mem hx
        rw [hF i x (by have := (List.getElem?_eq_some_iff.1 hi).1; omega) hi]
        exact Bool.false_ne_true
      have hki : ¬ (k : Int) < (L.length : Int) := by omega
      have hp' : (0 : Int) < (L.length : Int) := by omega
      have HR := Lib.hid hr
      clear hr hF
      go_wp2_with fail
      go_ret
      exact ⟨by rw [HR.out, HZ'.out]; rfl, hB⟩
end Go.Proofs.YtlokhhjhckiloaaGreat
