/- What varint.Read and the document's Read do at every place and width, and the law VarintReads; for texts of at most 2 to the 48 bytes. -/
import Derived.Test.YtcepdppnhhidoaaVTake
namespace Go.Proofs.Ytcepdppnhhidoaa
open Go.RowKit
set_option linter.unusedVariables false
/-- Bytes, the greatest first, as a number. -/
def bv (l : List UInt8) : Nat := l.foldl (fun a b => a * 256 + b.toNat) 0
theorem bv_snoc (l : List UInt8) (b : UInt8) : bv (l ++ [b]) = bv l * 256 + b.toNat := by simp [bv]
theorem foldl_lt : ∀ (l : List UInt8) (x m : Nat), x < m → l.foldl (fun a b => a * 256 + b.toNat) x < m * 256 ^ l.length
  | [], x, m, h => by simpa using h
  | b :: l, x, m, h => by
    have hb := toNat_lt b
    have := foldl_lt l (x * 256 + b.toNat) (m * 256) (by omega)
    rw [List.foldl_cons, List.length_cons, Nat.pow_succ, Nat.mul_comm (256 ^ l.length), ← Nat.mul_assoc]
    exact this
theorem bv_lt (l : List UInt8) : bv l < 256 ^ l.length := by
  have := foldl_lt l 0 1 (by decide)
  rw [Nat.one_mul] at this
  exact this
/-- What Read hands back. -/
def readG (s : ByteArray) (p w : Int) : Int × Int × Int :=
  if p < 0 ∨ (s.size : Int) < p ∨ w < 1 ∨ 8 < w then (0, 0, 1) else
  if (s.size : Int) - p < w then (0, 0, 2) else
  if 9223372036854775808 ≤ bv ((s.data.toList.drop p.toNat).take w.toNat) then (0, 0, 3) else
  (((bv ((s.data.toList.drop p.toNat).take w.toNat) : Nat) : Int), p + w, 0)
theorem take_drop_snoc {s : ByteArray} {a k : Nat} (h : a + k < s.size) : (s.data.toList.drop a).take (k + 1) = (s.data.toList.drop a).take k ++ [s[a + k]] := take_one (drop_at h)
theorem or_low {x : Nat} {b : UInt8} (h : x < 72057594037927936) : x * 256 ||| b.toNat = x * 256 + b.toNat := nat_join 8 _ _ (by omega) (toNat_lt b)
theorem bv_take_lt (l : List UInt8) {k : Nat} (h : k ≤ 7) : bv (l.take k) < 72057594037927936 := by
  have h1 := bv_lt (l.take k)
  have h2 : 256 ^ (l.take k).length ≤ 256 ^ 7 := Nat.pow_le_pow_right (by decide) (by rw [List.length_take]; omega)
  omega
theorem bv_take_lt8 (l : List UInt8) {k : Nat} (h : k ≤ 8) : bv (l.take k) < 18446744073709551616 := by
  have h1 := bv_lt (l.take k)
  have h2 : 256 ^ (l.take k).length ≤ 256 ^ 8 := Nat.pow_le_pow_right (by decide) (by rw [List.length_take]; omega)
  omega
theorem within_c (s : ByteArray) (p : Int) (W : World) : Calls Try.prog 25 #[.string s, .int .i64 p] W fun e w' => e = .returned (.bool (decide (0 ≤ p ∧ p ≤ (s.size : Int)))) ∧ W = w' := by
  by_cases h : 0 ≤ p
  · by_cases h2 : p ≤ (s.size : Int)
    · have d : decide (p ≤ (s.size : Int)) = true := decide_eq_true h2
      rw [decide_eq_true (show 0 ≤ p ∧ p ≤ (s.size : Int) from ⟨h, h2⟩)]
      go_enter Try.func25, Try.ntmps25
      go_wp2
      go_ret
      exact ⟨rfl, rfl⟩
    · have d : decide (p ≤ (s.size : Int)) = false := decide_eq_false h2
      rw [decide_eq_false (show ¬ (0 ≤ p ∧ p ≤ (s.size : Int)) from fun x => h2 x.2)]
      go_enter Try.func25, Try.ntmps25
      go_wp2
      go_ret
      exact ⟨rfl, rfl⟩
  · have d : decide (0 ≤ p) = false := decide_eq_false h
    rw [decide_eq_false (show ¬ (0 ≤ p ∧ p ≤ (s.size : Int)) from fun x => h x.1)]
    go_enter Try.func25, Try.ntmps25
    go_wp2
    go_ret
    exact ⟨rfl, rfl⟩
theorem wide_c (p : Int) (W : World) : Calls Try.prog 28 #[.int .i64 p] W fun e w' => e = .returned (.bool (decide (1 ≤ p ∧ p ≤ 8))) ∧ W = w' := by
  by_cases h : 1 ≤ p
  · by_cases h2 : p ≤ 8
    · have d : decide (p ≤ 8) = true := decide_eq_true h2
      rw [decide_eq_true (show 1 ≤ p ∧ p ≤ 8 from ⟨h, h2⟩)]
      go_enter Try.func28, Try.ntmps28
      go_wp2
      go_ret
      exact ⟨rfl, rfl⟩
    · have d : decide (p ≤ 8) = false := decide_eq_false h2
      rw [decide_eq_false (show ¬ (1 ≤ p ∧ p ≤ 8) from fun x => h2 x.2)]
      go_enter Try.func28, Try.ntmps28
      go_wp2
      go_ret
      exact ⟨rfl, rfl⟩
  · have d : decide (1 ≤ p) = false := decide_eq_false h
    rw [decide_eq_false (show ¬ (1 ≤ p ∧ p ≤ 8) from fun x => h x.1)]
    go_enter Try.func28, Try.ntmps28
    go_wp2
    go_ret
    exact ⟨rfl, rfl⟩
set_option maxHeartbeats 1000000 in
set_option maxRecDepth 100000 in
theorem read_in (s : ByteArray) (a w : Nat) (W : World) (hs : s.size ≤ 281474976710656) (ha : a ≤ s.size) (h1 : 1 ≤ w) (h8 : w ≤ 8) :
    Calls Try.prog 18 #[.string s, .int .i64 a, .int .i64 w] W fun e w' => e = .returned (Tri (readG s a w).1 (readG s a w).2.1 (readG s a w).2.2) ∧ W = w' := by
  have hR : readG s a w = if (s.size : Int) - (a : Int) < (w : Int) then (0, 0, 2) else if 9223372036854775808 ≤ bv ((s.data.toList.drop a).take w) then (0, 0, 3) else (((bv ((s.data.toList.drop a).take w) : Nat) : Int), (a : Int) + (w : Int), 0) := by
    unfold readG
    rw [if_neg (by omega)]
    rfl
  have cw := within_c s a W
  rw [decide_eq_true (show 0 ≤ (a : Int) ∧ (a : Int) ≤ (s.size : Int) by omega)] at cw
  have cd := wide_c w W
  rw [decide_eq_true (show 1 ≤ (w : Int) ∧ (w : Int) ≤ 8 by omega)] at cd
  by_cases hc : (s.size : Int) - (a : Int) < (w : Int)
  · rw [if_pos hc] at hR
    have HR := Lib.hid hR
    clear hR
    go_enter Try.func18, Try.ntmps18
    go_wp2_with (first
      | ((with_reducible refine cw.mono ?_); rintro e w' ⟨rfl, rfl⟩)
      | ((with_reducible refine cd.mono ?_); rintro e w' ⟨rfl, rfl⟩))
    go_ret3
    exact ⟨by rw [HR.out]; rfl, rfl⟩
  · rw [if_neg hc] at hR
    have hin : a + w ≤ s.size := by omega
    have d1 : decide ((s.size : Int) - (a : Int) < (w : Int)) = false := decide_eq_false hc
    have HR := Lib.hid hR
    clear hR hc
    go_enter Try.func18, Try.ntmps18
    go_wp2_with (first
      | ((with_reducible refine cw.mono ?_); rintro e w' ⟨rfl, rfl⟩)
      | ((with_reducible refine cd.mono ?_); rintro e w' ⟨rfl, rfl⟩))
    go_loop [9, 27] (fun x i => ∃ k : Nat, k ≤ w ∧ i = .int .i64 k ∧ x = .int .u64 (bv ((s.data.toList.drop a).take k) : Nat)) (fun _ i => w - (intOf i).toNat)
    case atStart => exact ⟨0, by omega, rfl, rfl⟩
    case round =>
      obtain ⟨k, hk, rfl, rfl⟩ := hrel
      by_cases hkw : k < w
      · have hak : a + k < s.size := by omega
        have hsn := take_drop_snoc hak
        have hlt := bv_take_lt (s.data.toList.drop a) (k := k) (by omega)
        have HS : Hid (bv ((s.data.toList.drop a).take (k + 1)) = bv ((s.data.toList.drop a).take k) * 256 + s[a + k].toNat) := Lib.hid (by rw [hsn, bv_snoc])
        have hb := toNat_lt s[a + k]
        clear hsn
        generalize bv ((s.data.toList.drop a).take k) = x at *
        have e1 : bits .or .u64 ((x : Int) * 256) (s[a + k].toNat : Int) = ((x * 256 + s[a + k].toNat : Nat) : Int) := by
          have := u64_or_nat (x * 256) s[a + k].toNat (by omega) (by omega)
          rw [or_low hlt] at this
          exact this
        generalize x * 256 + s[a + k].toNat = y at *
        go_wp2
        go_round
        case rel => exact ⟨k + 1, by omega, by go_num, by rw [HS.out]⟩
        case measure => simp [intOf]; omega
      · obtain rfl : k = w := by omega
        have hv := bv_take_lt8 (s.data.toList.drop a) (k := k) (by omega)
        generalize bv ((s.data.toList.drop a).take k) = v at *
        by_cases hbig : 9223372036854775808 ≤ v
        · have H1 : Hid (readG s a k = (0, 0, 3)) := Lib.hid (by rw [HR.out, if_pos hbig])
          have e1 : (v : Int) / 9223372036854775808 = 1 := by omega
          clear HR hbig hv
          go_wp2
          go_ret3
          exact ⟨by rw [H1.out]; rfl, rfl⟩
        · have H1 : Hid (readG s a k = ((v : Int), (a : Int) + (k : Int), 0)) := Lib.hid (by rw [HR.out, if_neg hbig])
          have e1 : (v : Int) / 9223372036854775808 = 0 := by omega
          have hv2 : v ≤ 9223372036854775807 := by omega
          clear HR hbig hv
          go_wp2
          go_ret3
          exact ⟨by rw [H1.out]; rfl, rfl⟩
set_option maxHeartbeats 1000000 in
set_option maxRecDepth 100000 in
theorem rread_in (s : ByteArray) (a w : Nat) (W : World) (hs : s.size ≤ 281474976710656) (ha : a ≤ s.size) (h1 : 1 ≤ w) (h8 : w ≤ 8) :
    Calls Try.prog 19 #[.string s, .int .i64 a, .int .i64 w] W fun e w' => e = .returned (Tri (readG s a w).1 (readG s a w).2.1 (readG s a w).2.2) ∧ W = w' := by
  have hR : readG s a w = if (s.size : Int) - (a : Int) < (w : Int) then (0, 0, 2) else if 9223372036854775808 ≤ bv ((s.data.toList.drop a).take w) then (0, 0, 3) else (((bv ((s.data.toList.drop a).take w) : Nat) : Int), (a : Int) + (w : Int), 0) := by
    unfold readG
    rw [if_neg (by omega)]
    rfl
  have q1 : decide ((a : Int) < 0) = false := decide_eq_false (by omega)
  have q2 : decide ((s.size : Int) < (a : Int)) = false := decide_eq_false (by omega)
  have q3 : decide (s.size < a) = false := decide_eq_false (by omega)
  have q4 : decide ((w : Int) < 1) = false := decide_eq_false (by omega)
  have q5 : decide ((8 : Int) < (w : Int)) = false := decide_eq_false (by omega)
  by_cases hc : (s.size : Int) - (a : Int) < (w : Int)
  · rw [if_pos hc] at hR
    have HR := Lib.hid hR
    clear hR
    go_enter Try.func19, Try.ntmps19
    go_wp2
    go_ret3
    exact ⟨by rw [HR.out]; rfl, rfl⟩
  · rw [if_neg hc] at hR
    have hin : a + w ≤ s.size := by omega
    have d1 : decide ((s.size : Int) - (a : Int) < (w : Int)) = false := decide_eq_false hc
    have HR := Lib.hid hR
    clear hR hc
    go_enter Try.func19, Try.ntmps19
    go_wp2
    go_loop [9, 10] (fun x i => ∃ k : Nat, k ≤ w ∧ i = .int .i64 k ∧ x = .int .u64 (bv ((s.data.toList.drop a).take k) : Nat)) (fun _ i => w - (intOf i).toNat)
    case atStart => exact ⟨0, by omega, rfl, rfl⟩
    case round =>
      obtain ⟨k, hk, rfl, rfl⟩ := hrel
      by_cases hkw : k < w
      · have hak : a + k < s.size := by omega
        have hsn := take_drop_snoc hak
        have hlt := bv_take_lt (s.data.toList.drop a) (k := k) (by omega)
        have HS : Hid (bv ((s.data.toList.drop a).take (k + 1)) = bv ((s.data.toList.drop a).take k) * 256 + s[a + k].toNat) := Lib.hid (by rw [hsn, bv_snoc])
        have hb := toNat_lt s[a + k]
        clear hsn
        generalize bv ((s.data.toList.drop a).take k) = x at *
        have e1 : (x : Int) * 256 + (s[a + k].toNat : Int) = ((x * 256 + s[a + k].toNat : Nat) : Int) := by omega
        have e2 : x * 256 + s[a + k].toNat ≤ 18446744073709551615 := by omega
        generalize x * 256 + s[a + k].toNat = y at *
        go_wp2
        go_round
        case rel => exact ⟨k + 1, by omega, by go_num, by rw [HS.out]⟩
        case measure => simp [intOf]; omega
      · obtain rfl : k = w := by omega
        have hv := bv_take_lt8 (s.data.toList.drop a) (k := k) (by omega)
        generalize bv ((s.data.toList.drop a).take k) = v at *
        by_cases hbig : 9223372036854775808 ≤ v
        · have H1 : Hid (readG s a k = (0, 0, 3)) := Lib.hid (by rw [HR.out, if_pos hbig])
          have e1 : decide (9223372036854775808 ≤ (v : Int)) = true := decide_eq_true (by omega)
          clear HR hbig hv
          go_wp2
          go_ret3
          exact ⟨by rw [H1.out]; rfl, rfl⟩
        · have H1 : Hid (readG s a k = ((v : Int), (a : Int) + (k : Int), 0)) := Lib.hid (by rw [HR.out, if_neg hbig])
          have e1 : decide (9223372036854775808 ≤ (v : Int)) = false := decide_eq_false (by omega)
          have hv2 : v ≤ 9223372036854775807 := by omega
          clear HR hbig hv
          go_wp2
          go_ret3
          exact ⟨by rw [H1.out]; rfl, rfl⟩
theorem read_out (s : ByteArray) (p w : Int) (W : World) (h : p < 0 ∨ (s.size : Int) < p ∨ w < 1 ∨ 8 < w) :
    Calls Try.prog 18 #[.string s, .int .i64 p, .int .i64 w] W fun e w' => e = .returned (Tri 0 0 1) ∧ W = w' := by
  have cw := within_c s p W
  have cd := wide_c w W
  by_cases h1 : 0 ≤ p ∧ p ≤ (s.size : Int)
  · rw [decide_eq_true h1] at cw
    rw [decide_eq_false (show ¬ (1 ≤ w ∧ w ≤ 8) by omega)] at cd
    clear h h1
    go_enter Try.func18, Try.ntmps18
    go_wp2_with (first
      | ((with_reducible refine cw.mono ?_); rintro e w' ⟨rfl, rfl⟩)
      | ((with_reducible refine cd.mono ?_); rintro e w' ⟨rfl, rfl⟩))
    go_ret3
    exact ⟨rfl, rfl⟩
  · rw [decide_eq_false h1] at cw
    clear h h1
    go_enter Try.func18, Try.ntmps18
    go_wp2_with (first
      | ((with_reducible refine cw.mono ?_); rintro e w' ⟨rfl, rfl⟩)
      | ((with_reducible refine cd.mono ?_); rintro e w' ⟨rfl, rfl⟩))
    go_ret3
    exact ⟨rfl, rfl⟩
theorem rread_out (s : ByteArray) (p w : Int) (W : World) (h : p < 0 ∨ (s.size : Int) < p ∨ w < 1 ∨ 8 < w) :
    Calls Try.prog 19 #[.string s, .int .i64 p, .int .i64 w] W fun e w' => e = .returned (Tri 0 0 1) ∧ W = w' := by
  by_cases h1 : p < 0
  · clear h
    go_enter Try.func19, Try.ntmps19
    go_wp2
    go_ret3
    exact ⟨rfl, rfl⟩
  · have q1 : decide (p < 0) = false := decide_eq_false h1
    by_cases h2 : (s.size : Int) < p
    · have q2 : decide ((s.size : Int) < p) = true := decide_eq_true h2
      clear h
      go_enter Try.func19, Try.ntmps19
      go_wp2
      go_ret3
      exact ⟨rfl, rfl⟩
    · have q2 : decide ((s.size : Int) < p) = false := decide_eq_false h2
      by_cases h3 : w < 1
      · have q3 : decide (w < 1) = true := decide_eq_true h3
        clear h
        go_enter Try.func19, Try.ntmps19
        go_wp2
        go_ret3
        exact ⟨rfl, rfl⟩
      · have q3 : decide (w < 1) = false := decide_eq_false h3
        have q4 : decide (8 < w) = true := decide_eq_true (by omega)
        clear h
        go_enter Try.func19, Try.ntmps19
        go_wp2
        go_ret3
        exact ⟨rfl, rfl⟩
theorem read_c (s : ByteArray) (p w : Int) (W : World) (hs : s.size ≤ 281474976710656) :
    Calls Try.prog 18 #[.string s, .int .i64 p, .int .i64 w] W fun e w' => e = .returned (Tri (readG s p w).1 (readG s p w).2.1 (readG s p w).2.2) ∧ W = w' := by
  by_cases h : p < 0 ∨ (s.size : Int) < p ∨ w < 1 ∨ 8 < w
  · have e : readG s p w = (0, 0, 1) := by unfold readG; rw [if_pos h]
    rw [e]
    exact read_out s p w W h
  · obtain ⟨a, rfl⟩ : ∃ a : Nat, p = a := ⟨p.toNat, by omega⟩
    obtain ⟨m, rfl⟩ : ∃ m : Nat, w = m := ⟨w.toNat, by omega⟩
    exact read_in s a m W hs (by omega) (by omega) (by omega)
theorem rread_c (s : ByteArray) (p w : Int) (W : World) (hs : s.size ≤ 281474976710656) :
    Calls Try.prog 19 #[.string s, .int .i64 p, .int .i64 w] W fun e w' => e = .returned (Tri (readG s p w).1 (readG s p w).2.1 (readG s p w).2.2) ∧ W = w' := by
  by_cases h : p < 0 ∨ (s.size : Int) < p ∨ w < 1 ∨ 8 < w
  · have e : readG s p w = (0, 0, 1) := by unfold readG; rw [if_pos h]
    rw [e]
    exact rread_out s p w W h
  · obtain ⟨a, rfl⟩ : ∃ a : Nat, p = a := ⟨p.toNat, by omega⟩
    obtain ⟨m, rfl⟩ : ∃ m : Nat, w = m := ⟨w.toNat, by omega⟩
    exact rread_in s a m W hs (by omega) (by omega) (by omega)
theorem varintReads_walk (a0 : ByteArray) (a1 a2 : Int) (W : World) (s0 : a0.size ≤ 140737488351232) (w1 : (Lit.int .i64 a1).wf = true) (w2 : (Lit.int .i64 a2).wf = true) :
    Calls Try.prog 6 #[.string a0, .int .i64 a1, .int .i64 a2] W (fun e w' => e = .returned (.bool true) ∧ Below W.heap.size W w') := by
  have c1 := fun w => read_c a0 a1 a2 w (by omega)
  have c2 := fun w => rread_c a0 a1 a2 w (by omega)
  unfold Tri at c1 c2
  clear w1 w2
  generalize (readG a0 a1 a2).1 = x at *
  generalize (readG a0 a1 a2).2.1 = y at *
  generalize (readG a0 a1 a2).2.2 = z at *
  go_enter Try.func6, Try.ntmps6
  go_wp2_with (first
    | ((with_reducible refine (c1 _).mono ?_); rintro e w1 ⟨rfl, rfl⟩)
    | ((with_reducible refine (c2 _).mono ?_); rintro e w2 ⟨rfl, rfl⟩)
    | ((with_reducible refine (live_c _).mono ?_); rintro e w3 ⟨rfl, hb3⟩))
  go_ret
  exact ⟨rfl, hb3⟩
end Go.Proofs.Ytcepdppnhhidoaa
