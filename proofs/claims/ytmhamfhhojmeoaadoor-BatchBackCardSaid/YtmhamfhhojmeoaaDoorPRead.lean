/- varint.Read by one contract, for every text of at most 2 to the 48 bytes. -/
import Derived.Test.YtmhamfhhojmeoaaDoorNum
import Derived.WalkKit
import Derived.ProofKit
import Derived.LoopTactic
import Derived.Lib.Hide
import Derived.ScopeJumps
import Derived.WalkMore
import Derived.WalkLawsBesides
import Derived.IntWalk
import Derived.Deep.RegionWith
import Derived.Laws.Concat
import Derived.Laws.DeepStrings4
namespace Go.Proofs.YtmhamfhhojmeoaaDoor
open Go.RowKit
set_option linter.unusedVariables false
theorem within_c (s : ByteArray) (p : Int) (W : World) : Calls Tryd.prog 63 #[.string s, .int .i64 p] W fun e w' => e = .returned (.bool (decide (0 ≤ p ∧ p ≤ (s.size : Int)))) ∧ W = w' := by
  by_cases h : 0 ≤ p
  · by_cases h2 : p ≤ (s.size : Int)
    · have d : decide (p ≤ (s.size : Int)) = true := decide_eq_true h2
      rw [decide_eq_true (show 0 ≤ p ∧ p ≤ (s.size : Int) from ⟨h, h2⟩)]
      go_enter Tryd.func63, Tryd.ntmps63
      go_wp2
      go_ret
      exact ⟨rfl, rfl⟩
    · have d : decide (p ≤ (s.size : Int)) = false := decide_eq_false h2
      rw [decide_eq_false (show ¬ (0 ≤ p ∧ p ≤ (s.size : Int)) from fun x => h2 x.2)]
      go_enter Tryd.func63, Tryd.ntmps63
      go_wp2
      go_ret
      exact ⟨rfl, rfl⟩
  · have d : decide (0 ≤ p) = false := decide_eq_false h
    rw [decide_eq_false (show ¬ (0 ≤ p ∧ p ≤ (s.size : Int)) from fun x => h x.1)]
    go_enter Tryd.func63, Tryd.ntmps63
    go_wp2
    go_ret
    exact ⟨rfl, rfl⟩
theorem wide_c (p : Int) (W : World) : Calls Tryd.prog 44 #[.int .i64 p] W fun e w' => e = .returned (.bool (decide (1 ≤ p ∧ p ≤ 8))) ∧ W = w' := by
  by_cases h : 1 ≤ p
  · by_cases h2 : p ≤ 8
    · have d : decide (p ≤ 8) = true := decide_eq_true h2
      rw [decide_eq_true (show 1 ≤ p ∧ p ≤ 8 from ⟨h, h2⟩)]
      go_enter Tryd.func44, Tryd.ntmps44
      go_wp2
      go_ret
      exact ⟨rfl, rfl⟩
    · have d : decide (p ≤ 8) = false := decide_eq_false h2
      rw [decide_eq_false (show ¬ (1 ≤ p ∧ p ≤ 8) from fun x => h2 x.2)]
      go_enter Tryd.func44, Tryd.ntmps44
      go_wp2
      go_ret
      exact ⟨rfl, rfl⟩
  · have d : decide (1 ≤ p) = false := decide_eq_false h
    rw [decide_eq_false (show ¬ (1 ≤ p ∧ p ≤ 8) from fun x => h x.1)]
    go_enter Tryd.func44, Tryd.ntmps44
    go_wp2
    go_ret
    exact ⟨rfl, rfl⟩
set_option maxHeartbeats 1000000 in
set_option maxRecDepth 100000 in
theorem read_in (s : ByteArray) (a w : Nat) (W : World) (hs : s.size ≤ 281474976710656) (ha : a ≤ s.size) (h1 : 1 ≤ w) (h8 : w ≤ 8) :
    Calls Tryd.prog 51 #[.string s, .int .i64 a, .int .i64 w] W fun e w' => e = .returned (Tri (readG s a w).1 (readG s a w).2.1 (readG s a w).2.2) ∧ W = w' := by
  have hR : readG s a w = if (s.size : Int) - (a : Int) < (w : Int) then (0, 0, 2) else if 9223372036854775808 ≤ bv ((s.data.toList.drop a).take w) then (0, 0, 3) else (((bv ((s.data.toList.drop a).take w) : Nat) : Int), (a : Int) + (w : Int), 0) := by
    unfold readG
    rw [if_neg (by omega)]
    rfl
  have cw := within_c s a W
  rw [decide_eq_true (show 0 ≤ (a : Int) ∧ (a : Int) ≤ (s.size : Int) by omega)] at cw
  have cd := wide_c w W
  rw [decide_eq_true (show 1 ≤ (w : Int) ∧ (w : Int) ≤ 8 by omega)] at cd
  by_cases hc : (s.size : Int) - (a : Int) < (w : Int)
  · rw [if_pos hc] at hR
    have HR := Lib.hid hR
    clear hR
    go_enter Tryd.func51, Tryd.ntmps51
    go_wp2_with (first
      | ((with_reducible refine cw.mono ?_); rintro e w' ⟨rfl, rfl⟩)
      | ((with_reducible refine cd.mono ?_); rintro e w' ⟨rfl, rfl⟩))
    go_ret3
    exact ⟨by rw [HR.out]; rfl, rfl⟩
  · rw [if_neg hc] at hR
    have hin : a + w ≤ s.size := by omega
    have d1 : decide ((s.size : Int) - (a : Int) < (w : Int)) = false := decide_eq_false hc
    have HR := Lib.hid hR
    clear hR hc
    go_enter Tryd.func51, Tryd.ntmps51
    go_wp2_with (first
      | ((with_reducible refine cw.mono ?_); rintro e w' ⟨rfl, rfl⟩)
      | ((with_reducible refine cd.mono ?_); rintro e w' ⟨rfl, rfl⟩))
    go_loop [9, 27] (fun x i => ∃ k : Nat, k ≤ w ∧ i = .int .i64 k ∧ x = .int .u64 (bv ((s.data.toList.drop a).take k) : Nat)) (fun _ i => w - (intOf i).toNat)
    case atStart => exact ⟨0, by omega, rfl, rfl⟩
    case round =>
      obtain ⟨k, hk, rfl, rfl⟩ := hrel
      by_cases hkw : k < w
      · have hak : a + k < s.size := by omega
        have hsn := take_drop_snoc hak
        have hlt := bv_take_lt (s.data.toList.drop a) (k := k) (by omega)
        have HS : Hid (bv ((s.data.toList.drop a).take (k + 1)) = bv ((s.data.toList.drop a).take k) * 256 + s[a + k].toNat) := Lib.hid (by rw [hsn, bv_snoc])
        have hb := toNat_lt s[a + k]
        clear hsn
        generalize bv ((s.data.toList.drop a).take k) = x at *
        have e1 : bits .or .u64 ((x : Int) * 256) (s[a + k].toNat : Int) = ((x * 256 + s[a + k].toNat : Nat) : Int) := by
          have := u64_or_nat (x * 256) s[a + k].toNat (by omega) (by omega)
          rw [or_low hlt] at this
          exact this
        generalize x * 256 + s[a + k].toNat = y at *
        go_wp2
        go_round
        case rel => exact ⟨k + 1, by omega, by go_num, by rw [HS.out]⟩
        case measure => simp [intOf]; omega
      · obtain rfl : k = w := by omega
        have hv := bv_take_lt8 (s.data.toList.drop a) (k := k) (by omega)
        generalize bv ((s.data.toList.drop a).take k) = v at *
        by_cases hbig : 9223372036854775808 ≤ v
        · have H1 : Hid (readG s a k = (0, 0, 3)) := Lib.hid (by rw [HR.out, if_pos hbig])
          have e1 : (v : Int) / 9223372036854775808 = 1 := by omega
          clear HR hbig hv
          go_wp2
          go_ret3
          exact ⟨by rw [H1.out]; rfl, rfl⟩
        · have H1 : Hid (readG s a k = ((v : Int), (a : Int) + (k : Int), 0)) := Lib.hid (by rw [HR.out, if_neg hbig])
          have e1 : (v : Int) / 9223372036854775808 = 0 := by omega
          have hv2 : v ≤ 9223372036854775807 := by omega
          clear HR hbig hv
          go_wp2
          go_ret3
          exact ⟨by rw [H1.out]; rfl, rfl⟩
theorem read_out (s : ByteArray) (p w : Int) (W : World) (h : p < 0 ∨ (s.size : Int) < p ∨ w < 1 ∨ 8 < w) :
    Calls Tryd.prog 51 #[.string s, .int .i64 p, .int .i64 w] W fun e w' => e = .returned (Tri 0 0 1) ∧ W = w' := by
  have cw := within_c s p W
  have cd := wide_c w W
  by_cases h1 : 0 ≤ p ∧ p ≤ (s.size : Int)
  · rw [decide_eq_true h1] at cw
    rw [decide_eq_false (show ¬ (1 ≤ w ∧ w ≤ 8) by omega)] at cd
    clear h h1
    go_enter Tryd.func51, Tryd.ntmps51
    go_wp2_with (first
      | ((with_reducible refine cw.mono ?_); rintro e w' ⟨rfl, rfl⟩)
      | ((with_reducible refine cd.mono ?_); rintro e w' ⟨rfl, rfl⟩))
    go_ret3
    exact ⟨rfl, rfl⟩
  · rw [decide_eq_false h1] at cw
    clear h h1
    go_enter Tryd.func51, Tryd.ntmps51
    go_wp2_with (first
      | ((with_reducible refine cw.mono ?_); rintro e w' ⟨rfl, rfl⟩)
      | ((with_reducible refine cd.mono ?_); rintro e w' ⟨rfl, rfl⟩))
    go_ret3
    exact ⟨rfl, rfl⟩
theorem read_c (s : ByteArray) (p w : Int) (W : World) (hs : s.size ≤ 281474976710656) :
    Calls Tryd.prog 51 #[.string s, .int .i64 p, .int .i64 w] W fun e w' => e = .returned (Tri (readG s p w).1 (readG s p w).2.1 (readG s p w).2.2) ∧ W = w' := by
  by_cases h : p < 0 ∨ (s.size : Int) < p ∨ w < 1 ∨ 8 < w
  · have e : readG s p w = (0, 0, 1) := by unfold readG; rw [if_pos h]
    rw [e]
    exact read_out s p w W h
  · obtain ⟨a, rfl⟩ : ∃ a : Nat, p = a := ⟨p.toNat, by omega⟩
    obtain ⟨m, rfl⟩ : ∃ m : Nat, w = m := ⟨w.toNat, by omega⟩
    exact read_in s a m W hs (by omega) (by omega) (by omega)
end Go.Proofs.YtmhamfhhojmeoaaDoor
