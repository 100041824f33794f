/- The document's Read by one contract, for every text of at most 2 to the 48 bytes. -/
import Derived.Test.YtmhamfhhojmeoaaDoorNum
import Derived.WalkKit
import Derived.ProofKit
import Derived.LoopTactic
import Derived.Lib.Hide
import Derived.ScopeJumps
import Derived.WalkMore
import Derived.WalkLawsBesides
import Derived.IntWalk
import Derived.Deep.RegionWith
import Derived.Laws.Concat
import Derived.Laws.DeepStrings4
namespace Go.Proofs.YtmhamfhhojmeoaaDoor
open Go.RowKit
set_option linter.unusedVariables false
set_option maxHeartbeats 1000000 in
set_option maxRecDepth 100000 in
theorem rread_in (s : ByteArray) (a w : Nat) (W : World) (hs : s.size ≤ 281474976710656) (ha : a ≤ s.size) (h1 : 1 ≤ w) (h8 : w ≤ 8) :
    Calls Tryd.prog 34 #[.string s, .int .i64 a, .int .i64 w] W fun e w' => e = .returned (Tri (readG s a w).1 (readG s a w).2.1 (readG s a w).2.2) ∧ W = w' := by
  have hR : readG s a w = if (s.size : Int) - (a : Int) < (w : Int) then (0, 0, 2) else if 9223372036854775808 ≤ bv ((s.data.toList.drop a).take w) then (0, 0, 3) else (((bv ((s.data.toList.drop a).take w) : Nat) : Int), (a : Int) + (w : Int), 0) := by
    unfold readG
    rw [if_neg (by omega)]
    rfl
  have q1 : decide ((a : Int) < 0) = false := decide_eq_false (by omega)
  have q2 : decide ((s.size : Int) < (a : Int)) = false := decide_eq_false (by omega)
  have q3 : decide (s.size < a) = false := decide_eq_false (by omega)
  have q4 : decide ((w : Int) < 1) = false := decide_eq_false (by omega)
  have q5 : decide ((8 : Int) < (w : Int)) = false := decide_eq_false (by omega)
  by_cases hc : (s.size : Int) - (a : Int) < (w : Int)
  · rw [if_pos hc] at hR
    have HR := Lib.hid hR
    clear hR
    go_enter Tryd.func34, Tryd.ntmps34
    go_wp2
    go_ret3
    exact ⟨by rw [HR.out]; rfl, rfl⟩
  · rw [if_neg hc] at hR
    have hin : a + w ≤ s.size := by omega
    have d1 : decide ((s.size : Int) - (a : Int) < (w : Int)) = false := decide_eq_false hc
    have HR := Lib.hid hR
    clear hR hc
    go_enter Tryd.func34, Tryd.ntmps34
    go_wp2
    go_loop [9, 10] (fun x i => ∃ k : Nat, k ≤ w ∧ i = .int .i64 k ∧ x = .int .u64 (bv ((s.data.toList.drop a).take k) : Nat)) (fun _ i => w - (intOf i).toNat)
    case atStart => exact ⟨0, by omega, rfl, rfl⟩
    case round =>
      obtain ⟨k, hk, rfl, rfl⟩ := hrel
      by_cases hkw : k < w
      · have hak : a + k < s.size := by omega
        have hsn := take_drop_snoc hak
        have hlt := bv_take_lt (s.data.toList.drop a) (k := k) (by omega)
        have HS : Hid (bv ((s.data.toList.drop a).take (k + 1)) = bv ((s.data.toList.drop a).take k) * 256 + s[a + k].toNat) := Lib.hid (by rw [hsn, bv_snoc])
        have hb := toNat_lt s[a + k]
        clear hsn
        generalize bv ((s.data.toList.drop a).take k) = x at *
        have e1 : (x : Int) * 256 + (s[a + k].toNat : Int) = ((x * 256 + s[a + k].toNat : Nat) : Int) := by omega
        have e2 : x * 256 + s[a + k].toNat ≤ 18446744073709551615 := by omega
        generalize x * 256 + s[a + k].toNat = y at *
        go_wp2
        go_round
        case rel => exact ⟨k + 1, by omega, by go_num, by rw [HS.out]⟩
        case measure => simp [intOf]; omega
      · obtain rfl : k = w := by omega
        have hv := bv_take_lt8 (s.data.toList.drop a) (k := k) (by omega)
        generalize bv ((s.data.toList.drop a).take k) = v at *
        by_cases hbig : 9223372036854775808 ≤ v
        · have H1 : Hid (readG s a k = (0, 0, 3)) := Lib.hid (by rw [HR.out, if_pos hbig])
          have e1 : decide (9223372036854775808 ≤ (v : Int)) = true := decide_eq_true (by omega)
          clear HR hbig hv
          go_wp2
          go_ret3
          exact ⟨by rw [H1.out]; rfl, rfl⟩
        · have H1 : Hid (readG s a k = ((v : Int), (a : Int) + (k : Int), 0)) := Lib.hid (by rw [HR.out, if_neg hbig])
          have e1 : decide (9223372036854775808 ≤ (v : Int)) = false := decide_eq_false (by omega)
          have hv2 : v ≤ 9223372036854775807 := by omega
          clear HR hbig hv
          go_wp2
          go_ret3
          exact ⟨by rw [H1.out]; rfl, rfl⟩
theorem rread_out (s : ByteArray) (p w : Int) (W : World) (h : p < 0 ∨ (s.size : Int) < p ∨ w < 1 ∨ 8 < w) :
    Calls Tryd.prog 34 #[.string s, .int .i64 p, .int .i64 w] W fun e w' => e = .returned (Tri 0 0 1) ∧ W = w' := by
  by_cases h1 : p < 0
  · clear h
    go_enter Tryd.func34, Tryd.ntmps34
    go_wp2
    go_ret3
    exact ⟨rfl, rfl⟩
  · have q1 : decide (p < 0) = false := decide_eq_false h1
    by_cases h2 : (s.size : Int) < p
    · have q2 : decide ((s.size : Int) < p) = true := decide_eq_true h2
      clear h
      go_enter Tryd.func34, Tryd.ntmps34
      go_wp2
      go_ret3
      exact ⟨rfl, rfl⟩
    · have q2 : decide ((s.size : Int) < p) = false := decide_eq_false h2
      by_cases h3 : w < 1
      · have q3 : decide (w < 1) = true := decide_eq_true h3
        clear h
        go_enter Tryd.func34, Tryd.ntmps34
        go_wp2
        go_ret3
        exact ⟨rfl, rfl⟩
      · have q3 : decide (w < 1) = false := decide_eq_false h3
        have q4 : decide (8 < w) = true := decide_eq_true (by omega)
        clear h
        go_enter Tryd.func34, Tryd.ntmps34
        go_wp2
        go_ret3
        exact ⟨rfl, rfl⟩
theorem rread_c (s : ByteArray) (p w : Int) (W : World) (hs : s.size ≤ 281474976710656) :
    Calls Tryd.prog 34 #[.string s, .int .i64 p, .int .i64 w] W fun e w' => e = .returned (Tri (readG s p w).1 (readG s p w).2.1 (readG s p w).2.2) ∧ W = w' := by
  by_cases h : p < 0 ∨ (s.size : Int) < p ∨ w < 1 ∨ 8 < w
  · have e : readG s p w = (0, 0, 1) := by unfold readG; rw [if_pos h]
    rw [e]
    exact rread_out s p w W h
  · obtain ⟨a, rfl⟩ : ∃ a : Nat, p = a := ⟨p.toNat, by omega⟩
    obtain ⟨m, rfl⟩ : ∃ m : Nat, w = m := ⟨w.toNat, by omega⟩
    exact rread_in s a m W hs (by omega) (by omega) (by omega)
end Go.Proofs.YtmhamfhhojmeoaaDoor
